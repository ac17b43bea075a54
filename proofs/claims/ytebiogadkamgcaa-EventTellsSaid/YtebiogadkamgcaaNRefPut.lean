/-
  The document's Put of events.
-/
import Derived.Test.YtebiogadkamgcaaNRefMay
import Derived.Test.YtebiogadkamgcaaNRefNums
import Derived.Test.YtebiogadkamgcaaNPut
import Derived.Test.YtebiogadkamgcaaVRefAll
import Derived.Test.YtebiogadkamgcaaReg2
namespace Go.Proofs.Ytebiogadkamgcaa
open Go.RowKit
set_option maxRecDepth 100000 in
set_option maxHeartbeats 400000 in
theorem refEvPut_any (t : Int) (a : Option Addr) (n c : Nat) (l : List Y.Ev) (w : World) (h : VIn w a n c l) (hn : n * 72 ≤ 140737488351232) :
    Calls Try.prog 12 #[.int .i64 t, .slice a n c] w (N.PutIs t l w) := by
  obtain ⟨i0, hi, hz0, hz1, hz2⟩ := info_parts info3
  have HT := Lib.hid h
  clear h
  go_enter Try.func12, Try.ntmps12
  by_cases hK : N.tick t
  case neg =>
    have HE : Hid (N.put t l = none) := Lib.hid (if_neg fun hh => hK hh.1)
    unfold N.tick at hK
    by_cases h0 : t < 0
    · have d1 : decide (t < 0) = true := decide_eq_true h0
      go_wp2_with fail
      go_ret2
      exact .no HE.out (Below.refl _ _)
    · have d1 : decide (t < 0) = false := decide_eq_false h0
      have d2 : decide (1073741824 < t) = true := decide_eq_true (by omega)
      go_wp2_with fail
      go_ret2
      exact .no HE.out (Below.refl _ _)
  case pos =>
  have HK := Lib.hid hK
  unfold N.tick at hK
  have d1 : decide (t < 0) = false := by simp; omega
  have d2 : decide (1073741824 < t) = false := by simp; omega
  clear hK
  go_wp2_with fail
  go_loopw [0, 6, 7] (fun t1 v i wr => ∃ (k : Nat) (a1 : Option Addr) (c1 m : Nat) (u : Int), t1 = .int .i64 u ∧ v = .slice a1 m c1 ∧ i = .int .i64 k ∧ k ≤ n ∧ m ≤ 5 * k ∧ Hid (u = N.last t (l.take k)) ∧ Hid (N.ok t (l.take k)) ∧ Hid (wr.ownsRow w.heap.size 3 1 (.slice a1 m c1) m ((N.flat t (l.take k)).map (Value.int .i64))) ∧ Hid (Below w.heap.size w wr)) (fun _ _ i _ => n - (intOf i).toNat)
  case atStart => exact ⟨0, none, 0, 0, t, rfl, rfl, rfl, by omega, by omega, Lib.hid rfl, Lib.hid trivial, Lib.hid (World.ownsRow_nil _ _ _ _), Lib.hid (Below.refl _ _)⟩
  case round =>
    obtain ⟨i, a1, c1, m, u, rfl, rfl, rfl, hin, hm5, HU, HO, HR, HB⟩ := hrel
    by_cases hlt : i < n
    · have d1 : decide ((i : Int) < n) = true := by simp; omega
      obtain ⟨b, off, x, rfl, hb, hx, pc⟩ := HT.out.at hlt
      have k0 : (0 : Int) ≤ i := by omega
      have k1 : (i : Int) < n := by omega
      have HX := Lib.hid hx
      have hsz := HB.out.size
      clear hx
      obtain ⟨xk, xt, xa, xb, xc, ⟨xq, xi, xh, xp⟩⟩ := x
      have p0 : w.cell? ⟨b, off + i * 9, none⟩ = some (.int .i64 xk) := pc 0 _ rfl
      have p1 : w.cell? ⟨b, off + i * 9 + 1, none⟩ = some (.int .i64 xt) := pc 1 _ rfl
      have p2 : w.cell? ⟨b, off + i * 9 + 2, none⟩ = some (.int .i64 xa) := pc 2 _ rfl
      have p3 : w.cell? ⟨b, off + i * 9 + 3, none⟩ = some (.int .i64 xb) := pc 3 _ rfl
      have p4 : w.cell? ⟨b, off + i * 9 + 4, none⟩ = some (.int .i64 xc) := pc 4 _ rfl
      have p5 : w.cell? ⟨b, off + i * 9 + 5, none⟩ = some (.int .i64 xq) := pc 5 _ rfl
      have p6 : w.cell? ⟨b, off + i * 9 + 6, none⟩ = some (.int .i64 xi) := pc 6 _ rfl
      have p7 : w.cell? ⟨b, off + i * 9 + 7, none⟩ = some (.int .i64 xh) := pc 7 _ rfl
      have p8 : w.cell? ⟨b, off + i * 9 + 8, none⟩ = some (.bool xp) := pc 8 _ rfl
      clear pc
      have HC := Lib.hid hb
      have P0 := Lib.hid p0
      have r0 := (HB.out.cell (p := ⟨b, off + i * 9, none⟩) hb).trans p0
      have P1 := Lib.hid p1
      have r1 := (HB.out.cell (p := ⟨b, off + i * 9 + 1, none⟩) hb).trans p1
      have P2 := Lib.hid p2
      have r2 := (HB.out.cell (p := ⟨b, off + i * 9 + 2, none⟩) hb).trans p2
      have P3 := Lib.hid p3
      have r3 := (HB.out.cell (p := ⟨b, off + i * 9 + 3, none⟩) hb).trans p3
      have P4 := Lib.hid p4
      have r4 := (HB.out.cell (p := ⟨b, off + i * 9 + 4, none⟩) hb).trans p4
      have P5 := Lib.hid p5
      have r5 := (HB.out.cell (p := ⟨b, off + i * 9 + 5, none⟩) hb).trans p5
      have P6 := Lib.hid p6
      have r6 := (HB.out.cell (p := ⟨b, off + i * 9 + 6, none⟩) hb).trans p6
      have P7 := Lib.hid p7
      have r7 := (HB.out.cell (p := ⟨b, off + i * 9 + 7, none⟩) hb).trans p7
      have P8 := Lib.hid p8
      have r8 := (HB.out.cell (p := ⟨b, off + i * 9 + 8, none⟩) hb).trans p8
      clear p0 p1 p2 p3 p4 p5 p6 p7 p8
      obtain ⟨mv, hmv⟩ : ∃ z, decide (N.May ⟨xk, xt, xa, xb, xc, ⟨xq, xi, xh, xp⟩⟩) = z := ⟨_, rfl⟩
      go_wp2_with fail
      refine (refMay_any ⟨xk, xt, xa, xb, xc, ⟨xq, xi, xh, xp⟩⟩ mv hmv wr).mono ?_
      rintro e w4 ⟨rfl, hb4⟩
      have HB4 := Zt HB hb4
      have HR4 := Lib.hid (ownsRow_below HR.out hb4)
      have q1 := (HB4.out.cell (p := ⟨b, off + i * 9 + 1, none⟩) hb).trans P1.out
      have sz4 := hb4.size
      clear hb4 r0 r1 r2 r3 r4 r5 r6 r7 r8
      cases mv with
      | false =>
        have HE : Hid (N.put t l = none) := Lib.hid (N.bad_at HX.out fun hh => of_decide_eq_false hmv hh.1)
        go_wp2_with fail
        go_ret2
        exact .no HE.out HB4.out
      | true =>
      by_cases hlt2 : xt < u
      · have d2 : decide (xt < u) = true := decide_eq_true hlt2
        have HE : Hid (N.put t l = none) := Lib.hid (N.bad_at HX.out fun hh => by have := hh.2; rw [← HU.out] at this; simp only at this; omega)
        go_wp2_with fail
        go_ret2
        exact .no HE.out HB4.out
      · have d3 : decide (xt < u) = false := decide_eq_false hlt2
        have HM := Lib.hid (of_decide_eq_true hmv)
        have hM1 := HM.out.1
        have hM2 := HM.out.kind
        have hM3 := N.last_tick _ _ HK.out HO.out
        rw [← HU.out] at hM3
        unfold N.tick at hM3
        simp only at hM1 hM2
        have z1 : IntKind.i64.wrap (xt - u) = xt - u := IntWalk.i64_in _ (by omega)
        have z2 : IntKind.i64.wrap (16 * (xt - u)) = 16 * (xt - u) := IntWalk.i64_in _ (by omega)
        have z3 : IntKind.i64.wrap (16 * (xt - u) + xk) = 16 * (xt - u) + xk := IntWalk.i64_in _ (by omega)
        have hXn : (Lit.int .i64 (16 * (xt - u) + xk)).wf = true := wf_num ⟨by omega, by omega⟩
        have HZ := Lib.hid (And.intro z1 (And.intro z2 z3))
        clear z1 z2 z3
        have hsz4 := HB4.out.size
        go_wp2_with fail
        refine wp_region_held (S := fun w' => Below w.heap.size w w') (by kernel_rfl) ?_
        change wpAnyH _ _ _ _ _ _ _ _ (World.drew w4)
        have RS0 : (fun w' => Below w.heap.size w w') (World.drew w4) := HB4.out.drew
        obtain ⟨z1, z2, z3⟩ := HZ.out
        refine tk 0 (.slice a1 m c1) RS0 ?_
        refine tk 1 (.slice (some ⟨b, off, none⟩) n c) RS0 ?_
        refine tk 2 (.int .i64 (i : Int)) RS0 ?_
        refine wpAnyH_take (i := 3) (v := .pointer (some ⟨b, off + i * 9, none⟩)) rfl (by kernel_rfl) (by kernel_rfl) (by kernel_rfl) (fun _ _ _ h => h) (.inl ⟨by kernel_rfl, fun w9 hS => by go_simp⟩) RS0 ?_
        refine tk 4 (.pointer (some ⟨b, off + i * 9 + 1, none⟩)) RS0 ?_
        refine wpAnyH_take (i := 5) (v := .int .i64 (xt)) rfl (by kernel_rfl) (by kernel_rfl) (by kernel_rfl) (fun _ _ _ h => h) (.inl ⟨by kernel_rfl, fun w9 hS => by have y : w9.cell? ⟨b, off + i * 9 + 1, none⟩ = some (.int .i64 xt) := (Below.cell hS HC.out).trans P1.out; go_simp⟩) RS0 ?_
        refine tk 6 (.int .i64 (u)) RS0 ?_
        refine wpAnyH_take (i := 7) (v := .int .i64 (xt - u)) rfl (by kernel_rfl) (by kernel_rfl) (by kernel_rfl) (fun _ _ _ h => h) (.inl ⟨by kernel_rfl, fun w9 hS => (show _ = Result.ok (.value (.int .i64 (IntKind.i64.wrap (xt - u)))) w9 by kernel_rfl).trans (by rw [z1])⟩) RS0 ?_
        refine wpAnyH_take (i := 8) (v := .int .i64 (16 * (xt - u))) rfl (by kernel_rfl) (by kernel_rfl) (by kernel_rfl) (fun _ _ _ h => h) (.inl ⟨by kernel_rfl, fun w9 hS => (show _ = Result.ok (.value (.int .i64 (IntKind.i64.wrap (16 * (xt - u))))) w9 by kernel_rfl).trans (by rw [z2])⟩) RS0 ?_
        refine tk 9 (.slice (some ⟨b, off, none⟩) n c) RS0 ?_
        refine tk 10 (.int .i64 (i : Int)) RS0 ?_
        refine wpAnyH_take (i := 11) (v := .pointer (some ⟨b, off + i * 9, none⟩)) rfl (by kernel_rfl) (by kernel_rfl) (by kernel_rfl) (fun _ _ _ h => h) (.inl ⟨by kernel_rfl, fun w9 hS => by go_simp⟩) RS0 ?_
        refine tk 12 (.pointer (some ⟨b, off + i * 9, none⟩)) RS0 ?_
        refine wpAnyH_take (i := 13) (v := .int .i64 (xk)) rfl (by kernel_rfl) (by kernel_rfl) (by kernel_rfl) (fun _ _ _ h => h) (.inl ⟨by kernel_rfl, fun w9 hS => by have y : w9.cell? ⟨b, off + i * 9, none⟩ = some (.int .i64 xk) := (Below.cell hS HC.out).trans P0.out; go_simp⟩) RS0 ?_
        refine wpAnyH_take (i := 14) (v := .int .i64 (16 * (xt - u) + xk)) rfl (by kernel_rfl) (by kernel_rfl) (by kernel_rfl) (fun _ _ _ h => h) (.inl ⟨by kernel_rfl, fun w9 hS => (show _ = Result.ok (.value (.int .i64 (IntKind.i64.wrap (16 * (xt - u) + xk)))) w9 by kernel_rfl).trans (by rw [z3])⟩) RS0 ?_
        obtain ⟨w5, hw5, hb5, hk5⟩ := Zn (World.drew w4) 3 #[.int .i64 (16 * (xt - u) + xk)]
        have R5 : (fun w' => Below w.heap.size w w') w5 := HB4.out.drew.trans (hb5.mono hsz4)
        have HR5 : Hid (w5.ownsRow w.heap.size 3 1 (.slice a1 m c1) m ((N.flat t (l.take i)).map (Value.int .i64))) := Lib.hid (ownsRow_below (w := World.drew w4) (ownsRow_below HR4.out (below_drew w4)) hb5)
        have hrow5 : RowIn .i64 w5 (some ⟨w4.heap.size, 0, none⟩) 1 [16 * (xt - u) + xk] := hk5.row (L := [16 * (xt - u) + xk]) (by simpa using hXn) (by simp) (by simp [maxLen])
        have sz5 : w.heap.size ≤ w5.heap.size := R5.size
        refine wpAnyH_one (i := 15) (by kernel_rfl) (wpOp_value (v := .slice (some ⟨w4.heap.size, 0, none⟩) 1 1) (w' := w5) rfl (by kernel_rfl) (by rw [← hw5]; kernel_rfl) ⟨R5, ?_⟩)
        refine wpAnyH_one (i := 16) (by kernel_rfl) (wpOp_append rfl (by kernel_rfl) (.tmp 39) (.tmp 54) 40 rfl w.heap.size 3 i0 (.int .i64 0) 8 Try.underlying40 hi hz0 hz1 hz2 rfl (.slice a1 m c1) m _ (by kernel_rfl) HR5.out .i64 ⟨w4.heap.size, 0, none⟩ 1 1 [16 * (xt - u) + xk] (by kernel_rfl) hrow5 rfl (by unfold maxLen; omega) (by omega) sz5 ?_)
        intro v' w6 ho6 hg6
        obtain ⟨a6, c6, rfl⟩ := ownsRow_form ho6
        have R6 : (fun w' => Below w.heap.size w w') w6 := below_appended0 HR5.out sz5 R5 hg6
        refine ⟨R6, ?_⟩
        refine tk 17 (.slice a6 (m + 1) c6) R6 ?_
        refine wpAnyH_done (by kernel_rfl) ?_ _
        have HR6 := Lib.hid ho6
        have HB6 : Hid (Below w.heap.size w w6) := Lib.hid R6
        clear hw5 hb5 hk5 R5 HR5 hrow5 ho6 hg6 R6 RS0 z1 z2 z3 q1
        have r0 := (HB6.out.cell (p := ⟨b, off + i * 9, none⟩) HC.out).trans P0.out
        have r1 := (HB6.out.cell (p := ⟨b, off + i * 9 + 1, none⟩) HC.out).trans P1.out
        have r2 := (HB6.out.cell (p := ⟨b, off + i * 9 + 2, none⟩) HC.out).trans P2.out
        have r3 := (HB6.out.cell (p := ⟨b, off + i * 9 + 3, none⟩) HC.out).trans P3.out
        have r4 := (HB6.out.cell (p := ⟨b, off + i * 9 + 4, none⟩) HC.out).trans P4.out
        have r5 := (HB6.out.cell (p := ⟨b, off + i * 9 + 5, none⟩) HC.out).trans P5.out
        have r6 := (HB6.out.cell (p := ⟨b, off + i * 9 + 6, none⟩) HC.out).trans P6.out
        have r7 := (HB6.out.cell (p := ⟨b, off + i * 9 + 7, none⟩) HC.out).trans P7.out
        have r8 := (HB6.out.cell (p := ⟨b, off + i * 9 + 8, none⟩) HC.out).trans P8.out
        go_wp2_with fail
        refine (refNumbers_any ⟨xk, xt, xa, xb, xc, ⟨xq, xi, xh, xp⟩⟩ HM.out w6).mono ?_
        rintro e w7 ⟨g7, c7, rfl, hr7, hb7⟩
        have HB7 := Zt HB6 hb7
        have HR7 := Lib.hid (ownsRow_below HR6.out hb7)
        have hsz7 := HB7.out.size
        have hln := N.nums_len ⟨xk, xt, xa, xb, xc, ⟨xq, xi, xh, xp⟩⟩
        clear hb7 r0 r1 r2 r3 r4 r5 r6 r7 r8
        go_wp2_with (at_builtin; refine wpList_append_own _ rfl _ _ 40 rfl w.heap.size 3 i0 (.int .i64 0) 1 8 Try.underlying40 hi hz0 hz1 hz2 rfl (by decide) _ _ _ rfl HR7.out ⟨g7, 0, none⟩ (N.nums ⟨xk, xt, xa, xb, xc, ⟨xq, xi, xh, xp⟩⟩).length c7 ((N.nums ⟨xk, xt, xa, xb, xc, ⟨xq, xi, xh, xp⟩⟩).map (Value.int .i64)) rfl (by simp) (N.row_cells hr7.out) (ints_one _ _) (by unfold maxLen; omega) (by omega) (by omega) ?_; intro v' w8 ho8 hg8 _; obtain ⟨a8, c8, rfl⟩ := ownsRow_form ho8; have HB8 := Lib.hid (below_appended0 HR7.out (by omega) HB7.out hg8); have HR8 := Lib.hid ho8; clear ho8 hg8; have s1 := (HB8.out.cell (p := ⟨b, off + i * 9 + 1, none⟩) HC.out).trans P1.out)
        go_roundw
        case rel => exact ⟨i + 1, a8, c8, m + 1 + (N.nums ⟨xk, xt, xa, xb, xc, ⟨xq, xi, xh, xp⟩⟩).length, xt, rfl, rfl, by go_num, by omega, by omega, Lib.hid (by rw [N.take_ok HX.out, N.last_append]; rfl), Lib.hid (by rw [N.take_ok HX.out, N.ok_append]; exact ⟨HO.out, HM.out, by rw [← HU.out]; simp only; omega, trivial⟩), Lib.hid (by
          have := HR8.out
          rw [N.take_ok HX.out, N.flat_append, ← HU.out]
          simpa [N.flat] using this), HB8⟩
        case measure => simp [intOf]; omega
    · have hd : decide ((i : Int) < n) = false := by simp; omega
      have HL : Hid (l.take i = l) := Lib.hid (List.take_of_length_le (by rw [HT.out.1]; omega))
      rw [HL.out] at HO HR
      have HF := Lib.hid (N.flat_isn l t HK.out HO.out)
      obtain ⟨a2, c2, hv, hm, hr⟩ := ownsRow_rowIn HR.out (fun x hx => wf_num (HF.out x hx))
      injection hv with hv1 hv2 hv3
      subst hv1 hv3 hm
      have HS := Lib.hid hr
      have HP : Hid (N.put t l = M.all (N.flat t l)) := Lib.hid (if_pos ⟨HK.out, HO.out⟩)
      clear hr
      go_wp2_with fail
      refine (refAllRow_any a1 (N.flat t l).length c1 (N.flat t l) wr rfl HS.out).mono ?_
      rintro e w3 ⟨a2, c2, n2, rfl, h1, h2, hb⟩
      have HB3 := Zt HB hb
      clear hb
      go_wp2_with fail
      go_ret2
      unfold N.PutIs
      rw [HP.out]
      exact ⟨a2, c2, n2, rfl, h1, h2, HB3.out⟩
end Go.Proofs.Ytebiogadkamgcaa
