/-
  Walk of moorings/mooringslaw06.awake: the chapter's example holds.
-/
import Derived.Test.YtcabhibbajkpkaaDHelp
namespace Go.Proofs.Ytcabhibbajkpkaa
open Go.RowKit

/-- The example's disk, made. -/
def aw0 (w : World) : World := w.alloc (.cells #[.int .u8 1, .int .u8 2, .int .u8 3] 5)
def aw1 (w : World) : World := (aw0 w).alloc (.cells #[.int .i64 1, .slice (some ⟨w.heap.size, 0, none⟩) 3 3, .int .i64 1] 43)
def aw2 (w : World) : World := dbox (aw1 w) 9 (some ⟨w.heap.size + 1, 0, none⟩) 1 1
theorem aw_below (w : World) : Below w.heap.size w (aw2 w) := by
  have h0 : Below w.heap.size w (aw0 w) := (Below.refl _ w).alloc (Nat.le_refl _) _
  have h1 : Below w.heap.size w (aw1 w) := h0.alloc h0.size _
  exact h1.alloc h1.size _
theorem aw_size (w : World) : (aw2 w).heap.size = w.heap.size + 3 := by simp [aw2, aw1, aw0, dbox]
def awF (w : World) : FP := ⟨1, some ⟨w.heap.size, 0, none⟩, 3, 3, [1, 2, 3], 1⟩
theorem aw_disk (w : World) : DiskIn (aw2 w) (some ⟨w.heap.size + 1, 0, none⟩) 1 1 [awF w] := by
  have h0 : FP.ok (aw0 w) (awF w) := by
    refine ⟨rfl, Blok.row (t := 5) (L := [1, 2, 3]) (Blok.new w _ _) (by decide) (by simp [awF]) (by simp [maxLen, awF]), fun h => by cases h⟩
  have h1 := one_file h0
  rw [show (aw0 w).heap.size = w.heap.size + 1 by simp [aw0]] at h1
  exact h1.below (dbox_below _ _ _ _ _)
theorem aw_box (w : World) : Blok (aw2 w) (w.heap.size + 2) 24 #[.int .i64 9, .slice (some ⟨w.heap.size + 1, 0, none⟩) 1 1] := by
  have h := dbox_blok (aw1 w) 9 (some ⟨w.heap.size + 1, 0, none⟩) 1 1
  rwa [show (aw1 w).heap.size = w.heap.size + 2 by simp [aw1, aw0]] at h
theorem aw_files (w : World) : FP.files [awF w] = [(1, [1, 2, 3], 1)] := rfl
theorem aw_small (w : World) : D.small (FP.files [awF w]) := by rw [aw_files]; exact ⟨by decide, by decide⟩
/-- One file came back. -/
theorem one_of {zs : List FP} {n : Nat} {w : World} {a : Option Addr} {c : Nat} (h : DiskIn w a n c zs) {no s : Int} {B : List Int} (hf : FP.files zs = [(no, B, s)]) : n = 1 ∧ ∃ b off a1 n1 c1, a = some ⟨b, off, none⟩ ∧ b < w.heap.size ∧ w.cell? ⟨b, off + 1, none⟩ = some (.slice a1 n1 c1) ∧ w.cell? ⟨b, off + 2, none⟩ = some (.int .i64 s) ∧ RowIn .u8 w a1 c1 B ∧ B.length = n1 := by
  have hl : zs.length = 1 := by rw [← FP.files_len, hf]; rfl
  obtain ⟨b, off, no', a1, n1, c1, B', s', ha, hb, hx, p0, p1, p2, hok⟩ := h.2.1.at (i := 0) (by omega)
  have hz : zs = [⟨no', a1, n1, c1, B', s'⟩] := by
    match zs, hl, hx with
    | [z], _, hx => simpa using hx
  rw [hz] at hf
  simp only [FP.files, FP.file, List.map_cons, List.map_nil, List.cons.injEq, Prod.mk.injEq, and_true] at hf
  obtain ⟨_, rfl, rfl⟩ := hf
  exact ⟨by rw [← h.1, hl], b, off, a1, n1, c1, ha, hb, by simpa using p1, by simpa using p2, hok.2.1, hok.1⟩

set_option maxRecDepth 100000 in
set_option maxHeartbeats 1000000 in
theorem awake_any (w : World) : Calls Try.prog 10 #[] w fun e w' => e = .returned (.bool true) ∧ Below w.heap.size w w' := by
  have HD := Lib.hid (aw_disk w)
  have HB := Lib.hid (aw_below w)
  have HC1 : Hid (D.crash (9, FP.files [awF w]) [1, 0] = (9, [(1, [1, 2], 2)])) := Lib.hid (by rw [aw_files]; decide)
  have HC2 : Hid (D.crash (9, FP.files [awF w]) [1, 1] = (9, [(1, [1, 167], 2)])) := Lib.hid (by rw [aw_files]; decide)
  have HM : Hid (decide (D.may (9, FP.files [awF w])) = true) := Lib.hid (by rw [aw_files]; decide)
  have HU : Hid ((if D.may (9, FP.files [awF w]) then (D.used (FP.files [awF w]) : Int) else 0) = 3) := Lib.hid (by rw [aw_files]; decide)
  have HF : Hid (D.find (9, FP.files [awF w]) 1 = 0) := Lib.hid (by rw [aw_files]; decide)
  have hsz := aw_size w
  have b0 : ∀ o, ((aw2 w).alloc o).cell? ⟨w.heap.size + 2, 0, none⟩ = some (.int .i64 9) := fun o => dk0 ((aw_box w).alloc o)
  go_enter Try.func10, Try.ntmps10
  go_wp2_with fail
  have hb1 : Below (aw2 w).heap.size (aw2 w) ((aw2 w).alloc (.cells #[.int .i64 1, .int .i64 0] 3)) := (Below.refl _ _).alloc (Nat.le_refl _) _
  refine (crash_any 9 (some ⟨w.heap.size + 1, 0, none⟩) 1 1 (some ⟨w.heap.size + 3, 0, none⟩) 2 2 [awF w] [1, 0] ((aw2 w).alloc (.cells #[.int .i64 1, .int .i64 0] 3)) (HD.out.below hb1) (aw_small w) rfl (by rw [← hsz]; exact Blok.row (t := 3) (L := [1, 0]) (Blok.new (aw2 w) _ _) (by decide) (by decide) (by simp [maxLen])) (by decide)).mono ?_
  rw [HC1.out]
  rintro e w1 ⟨a3, n3, c3, zs, rfl, HD3, HF3, _, hbw⟩
  have X1 := hb1.trans (hbw.mono hb1.size)
  have W1 := Lib.hid X1
  have W1b := Lib.hid (X1.trans ((dbox_below w1 9 a3 n3 c3).mono X1.size))
  have hbm := dbox_below w1 9 a3 n3 c3
  have ka : Blok w1 (w.heap.size + 2) 24 _ := (aw_box w).on X1
  have b1 : ∀ o, (w1.alloc o).cell? ⟨w.heap.size + 2, 0, none⟩ = some (.int .i64 9) := fun o => dk0 (ka.alloc o)
  have b2 : ∀ o, (w1.alloc o).cell? ⟨w.heap.size + 2, 1, none⟩ = some (.slice (some ⟨w.heap.size + 1, 0, none⟩) 1 1) := fun o => dk1 (ka.alloc o)
  obtain ⟨rfl, bA, oA, aA, nA, cA, rfl, hbA, qA1, qA2, rA, lA⟩ := one_of HD3.out HF3.out
  have RA := Lib.hid (rA.below hbm)
  have QA1 := Lib.hid ((hbm.cell (p := ⟨bA, oA + 1, none⟩) hbA).trans qA1)
  have QA2 := Lib.hid ((hbm.cell (p := ⟨bA, oA + 2, none⟩) hbA).trans qA2)
  have hbA2 : bA < (dbox w1 9 (some ⟨bA, oA, none⟩) 1 c3).heap.size := by rw [dbox_size]; omega
  have KA := Lib.hid (dbox_blok w1 9 (some ⟨bA, oA, none⟩) 1 c3)
  have hcA : 1 ≤ c3 := HD3.out.caps.1
  clear b0 hb1 hbw X1 ka hbm qA1 qA2 rA HD3 HF3
  go_wp2_with fail
  have hb1 := (dbox_below w1 9 (some ⟨bA, oA, none⟩) 1 c3)
  have hb2 : Below (dbox w1 9 (some ⟨bA, oA, none⟩) 1 c3).heap.size (dbox w1 9 (some ⟨bA, oA, none⟩) 1 c3) ((dbox w1 9 (some ⟨bA, oA, none⟩) 1 c3).alloc (.cells #[.int .i64 1, .int .i64 1] 3)) := (Below.refl _ _).alloc (Nat.le_refl _) _
  have X2 := W1b.out.trans (hb2.mono W1b.out.size)
  have hsz1 := dbox_size w1 9 (some ⟨bA, oA, none⟩) 1 c3
  refine (crash_any 9 (some ⟨w.heap.size + 1, 0, none⟩) 1 1 (some ⟨w1.heap.size + 1, 0, none⟩) 2 2 [awF w] [1, 1] ((dbox w1 9 (some ⟨bA, oA, none⟩) 1 c3).alloc (.cells #[.int .i64 1, .int .i64 1] 3)) (HD.out.below X2) (aw_small w) rfl (by rw [← hsz1]; exact Blok.row (t := 3) (L := [1, 1]) (Blok.new (dbox w1 9 (some ⟨bA, oA, none⟩) 1 c3) _ _) (by decide) (by decide) (by simp [maxLen])) (by decide)).mono ?_
  rw [HC2.out]
  rintro e w2 ⟨a4, n4, c4, zs, rfl, HD4, HF4, _, hbw⟩
  have Y2 := hb2.trans (hbw.mono hb2.size)
  have Z2 := X2.trans (hbw.mono X2.size)
  obtain ⟨rfl, bB, oB, aB, nB, cB, rfl, hbB, qB1, qB2, rB, lB⟩ := one_of HD4.out HF4.out
  have hcB : 1 ≤ c4 := HD4.out.caps.1
  have W2 := Lib.hid (Z2.trans ((dbox_below w2 9 (some ⟨bB, oB, none⟩) 1 c4).mono Z2.size))
  have al : ∀ o, Below w2.heap.size w2 (w2.alloc o) := fun o => (Below.refl _ _).alloc (Nat.le_refl _) _
  have kd : Blok w2 (w.heap.size + 2) 24 _ := (aw_box w).on Z2
  have ka : Blok w2 w1.heap.size 24 _ := KA.out.on Y2
  have d0 : ∀ o, (w2.alloc o).cell? ⟨w.heap.size + 2, 0, none⟩ = some (.int .i64 9) := fun o => dk0 (kd.alloc o)
  have d1 : ∀ o, (w2.alloc o).cell? ⟨w.heap.size + 2, 1, none⟩ = some (.slice (some ⟨w.heap.size + 1, 0, none⟩) 1 1) := fun o => dk1 (kd.alloc o)
  have e1 : ∀ o, (w2.alloc o).cell? ⟨w1.heap.size, 1, none⟩ = some (.slice (some ⟨bA, oA, none⟩) 1 c3) := fun o => dk1 (ka.alloc o)
  have f1 : ∀ o, (w2.alloc o).cell? ⟨bA, oA + 1, none⟩ = some (.slice aA nA cA) := fun o => ((al o).cell (p := ⟨bA, oA + 1, none⟩) (Nat.lt_of_lt_of_le hbA2 Y2.size)).trans ((Y2.cell (p := ⟨bA, oA + 1, none⟩) hbA2).trans QA1.out)
  have f2 : ∀ o, (w2.alloc o).cell? ⟨bA, oA + 2, none⟩ = some (.int .i64 2) := fun o => ((al o).cell (p := ⟨bA, oA + 2, none⟩) (Nat.lt_of_lt_of_le hbA2 Y2.size)).trans ((Y2.cell (p := ⟨bA, oA + 2, none⟩) hbA2).trans QA2.out)
  have g1 : ∀ o, (w2.alloc o).cell? ⟨bB, oB + 1, none⟩ = some (.slice aB nB cB) := fun o => ((al o).cell (p := ⟨bB, oB + 1, none⟩) hbB).trans qB1
  have hA : strOf [1, 2] = ⟨#[1, 2]⟩ := rfl
  have hB : strOf [1, 167] = ⟨#[1, 167]⟩ := rfl
  have cA' : ∀ o, (convert 25 9 (.slice aA nA cA)).run Try.prog (w2.alloc o) = .ok (.string ⟨#[1, 2]⟩) (w2.alloc o) := fun o => by rw [← hA]; exact conv_row ((RA.out.below Y2).below (al o)) lA
  have cB' : ∀ o, (convert 25 9 (.slice aB nB cB)).run Try.prog (w2.alloc o) = .ok (.string ⟨#[1, 167]⟩) (w2.alloc o) := fun o => by rw [← hB]; exact conv_row (rB.below (al o)) lB
  have KD := Lib.hid (kd.alloc (.cells #[.int .i64 9, .slice (some ⟨bB, oB, none⟩) 1 c4] 24))
  have HD2 := Lib.hid (HD.out.below W2.out)
  clear hA hB al kd ka b1 b2 hb1 hb2 X2 hbw Y2 Z2 qB1 qB2 rB HD4 HF4
  go_wp2_with fail
  clear d0 d1 e1 f1 f2 g1 cA' cB'
  refine (may_any 9 (some ⟨w.heap.size + 1, 0, none⟩) 1 1 [awF w] true (dbox w2 9 (some ⟨bB, oB, none⟩) 1 c4) HD2.out HM.out).mono ?_
  rintro e w3 ⟨rfl, hb3⟩
  have W3 := Lib.hid (W2.out.trans (hb3.mono W2.out.size))
  have K3 : Hid (Blok w3 (w.heap.size + 2) 24 _) := Lib.hid (KD.out.on hb3)
  have HD3 := Lib.hid (HD2.out.below hb3)
  clear hb3
  have d0 := dk0 K3.out
  have d1 := dk1 K3.out
  go_wp2_with fail
  refine (used_any 9 (some ⟨w.heap.size + 1, 0, none⟩) 1 1 [awF w] 3 w3 HD3.out HU.out).mono ?_
  rintro e w4 ⟨rfl, hb3⟩
  have W4 := Lib.hid (W3.out.trans (hb3.mono W3.out.size))
  have K4 : Hid (Blok w4 (w.heap.size + 2) 24 _) := Lib.hid (K3.out.on hb3)
  have HD4 := Lib.hid (HD3.out.below hb3)
  clear hb3 d0 d1
  have d0 := dk0 K4.out
  have d1 := dk1 K4.out
  go_wp2_with fail
  refine (find_any 9 (some ⟨w.heap.size + 1, 0, none⟩) 1 1 1 [awF w] 0 w4 HD4.out HF.out).mono ?_
  rintro e w5 ⟨rfl, hb3⟩
  have W5 := Lib.hid (W4.out.trans (hb3.mono W4.out.size))
  have K5 : Hid (Blok w5 (w.heap.size + 2) 24 _) := Lib.hid (K4.out.on hb3)
  have HD5 := Lib.hid (HD4.out.below hb3)
  clear hb3 d0 d1
  have d0 := dk0 K5.out
  have d1 := dk1 K5.out
  go_wp2_with fail
  refine (same_any 9 (some ⟨w.heap.size + 1, 0, none⟩) 1 1 [awF w] 9 (some ⟨w.heap.size + 1, 0, none⟩) 1 1 [awF w] true w5 HD5.out HD5.out (by simp)).mono ?_
  rintro e w6 ⟨rfl, hb3⟩
  have W6 := Lib.hid (HB.out.trans ((W5.out.trans (hb3.mono W5.out.size)).mono HB.out.size))
  clear hb3 d0 d1
  go_wp2
  go_ret
  exact ⟨rfl, W6.out⟩
end Go.Proofs.Ytcabhibbajkpkaa
