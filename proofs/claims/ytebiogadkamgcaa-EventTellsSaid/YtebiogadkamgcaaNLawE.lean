/-
  EventTells.
-/
import Derived.Test.YtebiogadkamgcaaNLawC
import Derived.Test.YtebiogadkamgcaaNRefRead
import Derived.Test.YtebiogadkamgcaaYR2
namespace Go.Proofs.Ytebiogadkamgcaa
open Go.RowKit
theorem N.len_flat : ∀ (l : List Y.Ev) (t : Int), l.length ≤ (N.flat t l).length
  | [], _ => by simp
  | e :: l, t => by have := N.len_flat l e.t; simp only [N.flat, List.length_cons, List.length_append]; omega
set_option maxRecDepth 100000 in
set_option maxHeartbeats 600000 in
theorem EventTells_in (t : Int) (a : Option Addr) (n c : Nat) (l : List Y.Ev) (a' : Option Addr) (m c' : Nat) (k : List Y.Ev) (ab : Option Addr) (nb cb : Nat) (b : List Int) (w : World) (h : VIn w a n c l) (h' : VIn w a' m c' k) (hbl : b.length = nb) (hbr : RowIn .u8 w ab cb b) : Calls Try.prog 3 #[.int .i64 t, .slice a n c, .slice a' m c', .slice ab nb cb] w fun x w' => x = .returned (.bool true) ∧ Below w.heap.size w w' := by
  have HV0 := Lib.hid h
  have HW0 := Lib.hid h'
  have HR0 := Lib.hid hbr
  have HBL := Lib.hid hbl
  clear h h' hbr hbl
  go_enter Try.func3, Try.ntmps3
  go_wp2_with fail
  refine (nawake_any w).mono ?_
  rintro e w1 ⟨rfl, hb⟩
  have HB1 := Lib.hid hb
  have HV1 := Lib.hid (HV0.out.below hb)
  have HW1 := Lib.hid (HW0.out.below hb)
  have HR1 := Lib.hid (HR0.out.below hb)
  clear hb
  by_cases hn : 100 < n
  · have d1 : decide (100 < (n : Int)) = true := by simp; omega
    go_wp2_with fail
    go_ret
    exact ⟨rfl, HB1.out⟩
  have d1 : decide (100 < (n : Int)) = false := by simp; omega
  by_cases hm : 100 < m
  · have d2 : decide (100 < (m : Int)) = true := by simp; omega
    go_wp2_with fail
    go_ret
    exact ⟨rfl, HB1.out⟩
  have d2 : decide (100 < (m : Int)) = false := by simp; omega
  by_cases hnb : 600 < nb
  · have d3 : decide (600 < (nb : Int)) = true := by simp; omega
    go_wp2_with fail
    go_ret
    exact ⟨rfl, HB1.out⟩
  have d3 : decide (600 < (nb : Int)) = false := by simp; omega
  go_wp2_with fail
  refine (evPut_any t a n c l w1 HV1.out (by omega)).mono ?_
  rintro e w2 ⟨a2, c2, n2, rfl, h1, h2, hb⟩
  have HB2 := Zt HB1 hb
  have HV2 := Lib.hid (HV1.out.below hb)
  have HW2 := Lib.hid (HW1.out.below hb)
  have HR2 := Lib.hid (HR1.out.below hb)
  clear hb
  have HX2 := h2
  have HXN := h1
  clear h1 h2
  obtain ⟨pv, hpv⟩ : ∃ z, (N.put t l).isSome = z := ⟨_, rfl⟩
  rw [hpv]
  go_wp2_with fail
  refine (refEvPut_any t a n c l w2 HV2.out (by omega)).mono ?_
  rintro e w3 ⟨a3, c3, n3, rfl, h1, h2, hb⟩
  have HB3 := Zt HB2 hb
  have HV3 := Lib.hid (HV2.out.below hb)
  have HW3 := Lib.hid (HW2.out.below hb)
  have HR3 := Lib.hid (HR2.out.below hb)
  have HX3 := Lib.hid (HX2.out.below hb)
  clear hb
  have HY3 := h2
  have HYN := h1
  rw [hpv]
  clear h1 h2 hpv
  obtain ⟨qv, hqv⟩ : ∃ z, (N.read t b).isSome = z := ⟨_, rfl⟩
  go_wp2_with fail
  refine (evRead_any t ab nb cb b w3 HBL.out HR3.out).mono ?_
  rintro e w4 ⟨a4, c4, n4, rfl, h1, h2, hb⟩
  have HB4 := Zt HB3 hb
  have HV4 := Lib.hid (HV3.out.below hb)
  have HW4 := Lib.hid (HW3.out.below hb)
  have HR4 := Lib.hid (HR3.out.below hb)
  have HX4 := Lib.hid (HX3.out.below hb)
  have HY4 := Lib.hid (HY3.out.below hb)
  clear hb
  have HP4 := h2
  have e4 := h1.out
  rw [hqv]
  clear h1 h2
  go_wp2_with fail
  refine (refEvRead_any t ab nb cb b w4 HBL.out HR4.out (by omega)).mono ?_
  rintro e w5 ⟨a5, c5, n5, rfl, h1, h2, hb⟩
  have HB5 := Zt HB4 hb
  have HV5 := Lib.hid (HV4.out.below hb)
  have HW5 := Lib.hid (HW4.out.below hb)
  have HR5 := Lib.hid (HR4.out.below hb)
  have HX5 := Lib.hid (HX4.out.below hb)
  have HY5 := Lib.hid (HY4.out.below hb)
  have HP5 := Lib.hid (HP4.out.below hb)
  clear hb
  have HQ5 := h2
  have e5 := h1.out
  rw [hqv]
  clear h1 h2 hqv
  have hq4 : n4 ≤ 1000000 := by
    rw [← e4]
    cases hr : N.read t b with
    | none => simp
    | some z =>
      have h1 := (N.put_some.1 (N.read_some.1 hr)).2.2.1
      have h2 : z.length ≤ (N.flat t z).length := N.len_flat z t
      simp only [Option.getD_some]
      omega
  go_wp2_with fail
  refine (refEvents_any a4 a5 n4 n5 c4 c5 ((N.read t b).getD []) ((N.read t b).getD []) w5 HP5.out HQ5.out hq4 true (decide_eq_true rfl)).mono ?_
  rintro e w6 ⟨rfl, hb⟩
  have HB6 := Zt HB5 hb
  have HV6 := Lib.hid (HV5.out.below hb)
  have HW6 := Lib.hid (HW5.out.below hb)
  have HR6 := Lib.hid (HR5.out.below hb)
  have HX6 := Lib.hid (HX5.out.below hb)
  have HY6 := Lib.hid (HY5.out.below hb)
  clear hb
  obtain ⟨zv, hzv⟩ : ∃ z, decide (l = k) = z := ⟨_, rfl⟩
  have HZ := Lib.hid hzv
  clear hzv e4 e5 hq4
  go_wp2_with fail
  refine (refEvents_any a a' n m c c' l k w6 HV6.out HW6.out (by omega) zv HZ.out).mono ?_
  rintro e w7 ⟨rfl, hb⟩
  have HB7 := Zt HB6 hb
  have HV7 := Lib.hid (HV6.out.below hb)
  have HW7 := Lib.hid (HW6.out.below hb)
  have HR7 := Lib.hid (HR6.out.below hb)
  have HX7 := Lib.hid (HX6.out.below hb)
  have HY7 := Lib.hid (HY6.out.below hb)
  clear hb
  go_wp2_with fail
  go_loopw [20] (fun v wr => ∃ i : Nat, v = .int .i64 i ∧ i ≤ n ∧ Hid (Below w7.heap.size w7 wr)) (fun v _ => n - (intOf v).toNat)
  case atStart => exact ⟨0, rfl, by omega, Lib.hid (Below.refl _ _)⟩
  case round =>
    obtain ⟨i, rfl, hin, HL⟩ := hrel
    by_cases hlt : i < n
    · have di : decide ((i : Int) < n) = true := by simp; omega
      obtain ⟨b0, off, x, rfl, hb0, hx, pc⟩ := HV7.out.at hlt
      have k0 : (0 : Int) ≤ i := by omega
      have k1 : (i : Int) < n := by omega
      obtain ⟨xk, xt, xa, xb, xc, ⟨xq, xi, xh, xp⟩⟩ := x
      have P0 : Hid (w7.cell? ⟨b0, off + i * 9, none⟩ = some (.int .i64 xk)) := Lib.hid (pc 0 _ rfl)
      have P1 : Hid (w7.cell? ⟨b0, off + i * 9 + 1, none⟩ = some (.int .i64 xt)) := Lib.hid (pc 1 _ rfl)
      have P2 : Hid (w7.cell? ⟨b0, off + i * 9 + 2, none⟩ = some (.int .i64 xa)) := Lib.hid (pc 2 _ rfl)
      have P3 : Hid (w7.cell? ⟨b0, off + i * 9 + 3, none⟩ = some (.int .i64 xb)) := Lib.hid (pc 3 _ rfl)
      have P4 : Hid (w7.cell? ⟨b0, off + i * 9 + 4, none⟩ = some (.int .i64 xc)) := Lib.hid (pc 4 _ rfl)
      have P5 : Hid (w7.cell? ⟨b0, off + i * 9 + 5, none⟩ = some (.int .i64 xq)) := Lib.hid (pc 5 _ rfl)
      have P6 : Hid (w7.cell? ⟨b0, off + i * 9 + 6, none⟩ = some (.int .i64 xi)) := Lib.hid (pc 6 _ rfl)
      have P7 : Hid (w7.cell? ⟨b0, off + i * 9 + 7, none⟩ = some (.int .i64 xh)) := Lib.hid (pc 7 _ rfl)
      have P8 : Hid (w7.cell? ⟨b0, off + i * 9 + 8, none⟩ = some (.bool xp)) := Lib.hid (pc 8 _ rfl)
      clear pc hx
      have p0 := (HL.out.cell (p := ⟨b0, off + i * 9, none⟩) hb0).trans P0.out
      have p1 := (HL.out.cell (p := ⟨b0, off + i * 9 + 1, none⟩) hb0).trans P1.out
      have p2 := (HL.out.cell (p := ⟨b0, off + i * 9 + 2, none⟩) hb0).trans P2.out
      have p3 := (HL.out.cell (p := ⟨b0, off + i * 9 + 3, none⟩) hb0).trans P3.out
      have p4 := (HL.out.cell (p := ⟨b0, off + i * 9 + 4, none⟩) hb0).trans P4.out
      have p5 := (HL.out.cell (p := ⟨b0, off + i * 9 + 5, none⟩) hb0).trans P5.out
      have p6 := (HL.out.cell (p := ⟨b0, off + i * 9 + 6, none⟩) hb0).trans P6.out
      have p7 := (HL.out.cell (p := ⟨b0, off + i * 9 + 7, none⟩) hb0).trans P7.out
      have p8 := (HL.out.cell (p := ⟨b0, off + i * 9 + 8, none⟩) hb0).trans P8.out
      obtain ⟨mv, hmv⟩ : ∃ z, decide (N.May ⟨xk, xt, xa, xb, xc, ⟨xq, xi, xh, xp⟩⟩) = z := ⟨_, rfl⟩
      have HM := Lib.hid hmv
      clear hmv
      go_wp2_with fail
      refine (refMay_any ⟨xk, xt, xa, xb, xc, ⟨xq, xi, xh, xp⟩⟩ mv HM.out wr).mono ?_
      rintro e w8 ⟨rfl, hb⟩
      have HL8 : Hid (Below w7.heap.size w7 w8) := Zt HL hb
      clear hb p0 p1 p2 p3 p4 p5 p6 p7 p8
      have p0 := (HL8.out.cell (p := ⟨b0, off + i * 9, none⟩) hb0).trans P0.out
      have p1 := (HL8.out.cell (p := ⟨b0, off + i * 9 + 1, none⟩) hb0).trans P1.out
      have p2 := (HL8.out.cell (p := ⟨b0, off + i * 9 + 2, none⟩) hb0).trans P2.out
      have p3 := (HL8.out.cell (p := ⟨b0, off + i * 9 + 3, none⟩) hb0).trans P3.out
      have p4 := (HL8.out.cell (p := ⟨b0, off + i * 9 + 4, none⟩) hb0).trans P4.out
      have p5 := (HL8.out.cell (p := ⟨b0, off + i * 9 + 5, none⟩) hb0).trans P5.out
      have p6 := (HL8.out.cell (p := ⟨b0, off + i * 9 + 6, none⟩) hb0).trans P6.out
      have p7 := (HL8.out.cell (p := ⟨b0, off + i * 9 + 7, none⟩) hb0).trans P7.out
      have p8 := (HL8.out.cell (p := ⟨b0, off + i * 9 + 8, none⟩) hb0).trans P8.out
      go_wp2_with fail
      refine (evMay_any ⟨xk, xt, xa, xb, xc, ⟨xq, xi, xh, xp⟩⟩ mv HM.out w8).mono ?_
      rintro e w9 ⟨rfl, hb⟩
      have HL9 : Hid (Below w7.heap.size w7 w9) := Zt HL8 hb
      clear hb p0 p1 p2 p3 p4 p5 p6 p7 p8
      have hmm : (mv != mv) = false := by simp
      go_wp2_with fail
      go_roundw
      case rel => exact ⟨i + 1, by go_num, by omega, HL9⟩
      case measure => simp [intOf]; omega
    · have di : decide ((i : Int) < n) = false := by simp; omega
      have s1 := conv_row (HX7.out.below HL.out) HXN.out
      have s2 := conv_row (HY7.out.below HL.out) HYN.out
      obtain ⟨sp, hsp⟩ : ∃ z, strOf ((N.put t l).getD []) = z := ⟨_, rfl⟩
      rw [hsp] at s1 s2
      clear hsp
      have hse : (sp.toList == sp.toList) = true := by simp
      have hpp : (pv == pv) = true := by simp
      have hqq : (qv == qv) = true := by simp
      go_wp2_with fail
      refine (evSame_any a a' n m c c' l k wr (HV7.out.below HL.out) (HW7.out.below HL.out) (by omega) zv HZ.out).mono ?_
      rintro e w8 ⟨rfl, hb⟩
      have HB8 : Hid (Below w.heap.size w w8) := Zt (Zt HB7 HL.out) hb
      have hzz : (zv == zv) = true := by simp
      clear hb
      go_wp2_with fail
      go_ret
      exact ⟨by first | rfl | simp, HB8.out⟩
end Go.Proofs.Ytebiogadkamgcaa
