/-
  event.Put.
-/
import Derived.Test.YtebiogadkamgcaaNMay2
import Derived.Test.YtebiogadkamgcaaNNums
namespace Go.Proofs.Ytebiogadkamgcaa
open Go.RowKit
/-- What Put returns. -/
def N.PutIs (at' : Int) (l : List Y.Ev) (w : World) (e : Ending) (w' : World) : Prop :=
  ∃ a' cap' n', e = .returned (.tuple #[.slice a' n' cap', .bool (N.put at' l).isSome]) ∧ Hid (((N.put at' l).getD []).length = n') ∧ Hid (RowIn .u8 w' a' cap' ((N.put at' l).getD [])) ∧ Below w.heap.size w w'
theorem N.PutIs.no {t : Int} {l : List Y.Ev} {w w' : World} (h : N.put t l = none) (hb : Below w.heap.size w w') : N.PutIs t l w (.returned (.tuple #[.slice none 0 0, .bool false])) w' :=
  ⟨none, 0, 0, by rw [h]; rfl, Lib.hid (by rw [h]; rfl), Lib.hid (by rw [h]; exact ⟨by simp [maxLen], by simp, .inl rfl⟩), hb⟩
theorem N.row_cells {k : IntKind} {w : World} {ad : Addr} {cap : Nat} {L : List Int} (h : RowIn k w (some ad) cap L) : ∀ j u, (L.map (Value.int k))[j]? = some u → w.cell? (ad.add j) = some u := by
  intro j u hj
  rcases h.2.2 with rfl | ⟨b, off, he, _, hc⟩
  · simp at hj
  · cases he
    rw [List.getElem?_map] at hj
    obtain ⟨n, hn, rfl⟩ := Option.map_eq_some_iff.1 hj
    obtain ⟨hl, hn'⟩ := List.getElem?_eq_some_iff.1 hn
    rw [WideShapes.add_plain, hc j hl]
    simp [hl, hn']
theorem N.take_ok {l : List Y.Ev} {i : Nat} {x : Y.Ev} (hx : l[i]? = some x) : l.take (i + 1) = l.take i ++ [x] := by
  obtain ⟨h0, h1⟩ := List.getElem?_eq_some_iff.1 hx
  rw [List.take_succ_eq_append_getElem h0, h1]
theorem N.ok_take {t : Int} {l : List Y.Ev} (h : N.ok t l) (i : Nat) : N.ok t (l.take i) := by
  have := h
  rw [← List.take_append_drop i l, N.ok_append] at this
  exact this.1
theorem N.bad_at {t : Int} {l : List Y.Ev} {i : Nat} {x : Y.Ev} (hx : l[i]? = some x) (h : ¬ (N.May x ∧ N.last t (l.take i) ≤ x.t)) : N.put t l = none := by
  unfold N.put
  refine if_neg fun hh => h ?_
  have := N.ok_take hh.2 (i + 1)
  rw [N.take_ok hx, N.ok_append] at this
  exact ⟨this.2.1, this.2.2.1⟩
theorem N.flat_le : ∀ (l : List Y.Ev) (t : Int), (N.flat t l).length ≤ 5 * l.length
  | [], _ => by simp [N.flat]
  | e :: l, t => by have := N.flat_le l e.t; have := N.nums_len e; simp only [N.flat, List.length_cons, List.length_append]; omega
set_option maxRecDepth 100000 in
set_option maxHeartbeats 400000 in
theorem evPut_any (t : Int) (a : Option Addr) (n c : Nat) (l : List Y.Ev) (w : World) (h : VIn w a n c l) (hn : n * 72 ≤ 140737488351232) :
    Calls Try.prog 11 #[.int .i64 t, .slice a n c] w (N.PutIs t l w) := by
  obtain ⟨i0, hi, hz0, hz1, hz2⟩ := info_parts info3
  have HT := Lib.hid h
  clear h
  go_enter Try.func11, Try.ntmps11
  obtain ⟨tk, htk⟩ : ∃ z, decide (N.tick t) = z := ⟨_, rfl⟩
  go_wp2_with fail
  refine (isTick_any t tk htk w).mono ?_
  rintro x w2 ⟨rfl, rfl⟩
  cases tk with
  | false =>
    have HE : Hid (N.put t l = none) := Lib.hid (if_neg fun hh => of_decide_eq_false htk hh.1)
    go_wp2_with fail
    go_ret2
    exact .no HE.out (Below.refl _ _)
  | true =>
  have ht := of_decide_eq_true htk
  have HK := Lib.hid ht
  clear htk ht
  go_wp2_with fail
  go_loopw [0, 6, 14] (fun t1 v i wr => ∃ (k : Nat) (a1 : Option Addr) (c1 m : Nat) (u : Int), t1 = .int .i64 u ∧ v = .slice a1 m c1 ∧ i = .int .i64 k ∧ k ≤ n ∧ m ≤ 5 * k ∧ Hid (u = N.last t (l.take k)) ∧ Hid (N.ok t (l.take k)) ∧ Hid (wr.ownsRow w2.heap.size 3 1 (.slice a1 m c1) m ((N.flat t (l.take k)).map (Value.int .i64))) ∧ Hid (Below w2.heap.size w2 wr)) (fun _ _ i _ => n - (intOf i).toNat)
  case atStart => exact ⟨0, none, 0, 0, t, rfl, rfl, rfl, by omega, by omega, Lib.hid rfl, Lib.hid trivial, Lib.hid (World.ownsRow_nil _ _ _ _), Lib.hid (Below.refl _ _)⟩
  case round =>
    obtain ⟨i, a1, c1, m, u, rfl, rfl, rfl, hin, hm5, HU, HO, HR, HB⟩ := hrel
    by_cases hlt : i < n
    · have d1 : decide ((i : Int) < n) = true := by simp; omega
      obtain ⟨b, off, x, rfl, hb, hx, pc⟩ := (HT.out.below HB.out).at hlt
      have k0 : (0 : Int) ≤ i := by omega
      have k1 : (i : Int) < n := by omega
      have HX := Lib.hid hx
      have hsz := HB.out.size
      clear hx
      obtain ⟨xk, xt, xa, xb, xc, ⟨xq, xi, xh, xp⟩⟩ := x
      have p0 : wr.cell? ⟨b, off + i * 9, none⟩ = some (.int .i64 xk) := pc 0 _ rfl
      have p1 : wr.cell? ⟨b, off + i * 9 + 1, none⟩ = some (.int .i64 xt) := pc 1 _ rfl
      have p2 : wr.cell? ⟨b, off + i * 9 + 2, none⟩ = some (.int .i64 xa) := pc 2 _ rfl
      have p3 : wr.cell? ⟨b, off + i * 9 + 3, none⟩ = some (.int .i64 xb) := pc 3 _ rfl
      have p4 : wr.cell? ⟨b, off + i * 9 + 4, none⟩ = some (.int .i64 xc) := pc 4 _ rfl
      have p5 : wr.cell? ⟨b, off + i * 9 + 5, none⟩ = some (.int .i64 xq) := pc 5 _ rfl
      have p6 : wr.cell? ⟨b, off + i * 9 + 6, none⟩ = some (.int .i64 xi) := pc 6 _ rfl
      have p7 : wr.cell? ⟨b, off + i * 9 + 7, none⟩ = some (.int .i64 xh) := pc 7 _ rfl
      have p8 : wr.cell? ⟨b, off + i * 9 + 8, none⟩ = some (.bool xp) := pc 8 _ rfl
      clear pc
      obtain ⟨w3, hw3, hb3, hk3⟩ := Zn wr 34 #[.int .i64 xk, .int .i64 xt, .int .i64 xa, .int .i64 xb, .int .i64 xc, .int .i64 xq, .int .i64 xi, .int .i64 xh, .bool xp]
      have HB3 := Zt HB hb3
      have HR3 := Lib.hid (ownsRow_below HR.out hb3)
      have KE3 := Lib.hid hk3
      have c0 := Zv hk3 0 (.int .i64 xk)
      have c1' := Zv hk3 1 (.int .i64 xt)
      have c2' := Zv hk3 2 (.int .i64 xa)
      have c3' := Zv hk3 3 (.int .i64 xb)
      have c4' := Zv hk3 4 (.int .i64 xc)
      have c5' := Zv hk3 5 (.int .i64 xq)
      have c6' := Zv hk3 6 (.int .i64 xi)
      have c7' := Zv hk3 7 (.int .i64 xh)
      have c8' := Zv hk3 8 (.bool xp)
      clear hb3 hk3
      obtain ⟨mv, hmv⟩ : ∃ z, decide (N.May ⟨xk, xt, xa, xb, xc, ⟨xq, xi, xh, xp⟩⟩) = z := ⟨_, rfl⟩
      go_wp2_with fail
      refine (evMay_any ⟨xk, xt, xa, xb, xc, ⟨xq, xi, xh, xp⟩⟩ mv hmv w3).mono ?_
      rintro e w4 ⟨rfl, hb4⟩
      have HB4 := Zt HB3 hb4
      have HR4 := Lib.hid (ownsRow_below HR3.out hb4)
      have KE4 := Zk KE3 hb4
      clear hb4 c0 c1' c2' c3' c4' c5' c6' c7' c8' p0 p1 p2 p3 p4 p5 p6 p7 p8 hw3
      cases mv with
      | false =>
        have HE : Hid (N.put t l = none) := Lib.hid (N.bad_at HX.out fun hh => of_decide_eq_false hmv hh.1)
        go_wp2_with fail
        go_ret2
        exact .no HE.out HB4.out
      | true =>
      have c1' := Zv KE4.out 1 (.int .i64 xt)
      by_cases hlt2 : xt < u
      · have d2 : decide (xt < u) = true := decide_eq_true hlt2
        have HE : Hid (N.put t l = none) := Lib.hid (N.bad_at HX.out fun hh => by have := hh.2; rw [← HU.out] at this; simp only at this; omega)
        go_wp2_with fail
        go_ret2
        exact .no HE.out HB4.out
      · have d2 : decide (xt < u) = false := decide_eq_false hlt2
        have HM := Lib.hid (of_decide_eq_true hmv)
        have hM1 := HM.out.1
        have hM2 := HM.out.kind
        have hM3 := N.last_tick _ _ HK.out HO.out
        rw [← HU.out] at hM3
        unfold N.tick at hM3
        simp only at hM1 hM2
        have z1 : wrap64 (xt - u) = xt - u := IntWalk.wrap64_in _ ⟨by omega, by omega⟩
        have z2 : wrap64 ((xt - u) * 16) = (xt - u) * 16 := IntWalk.wrap64_in _ ⟨by omega, by omega⟩
        have z3 : wrap64 ((xt - u) * 16 + xk) = (xt - u) * 16 + xk := IntWalk.wrap64_in _ ⟨by omega, by omega⟩
        have c0' := Zv KE4.out 0 (.int .i64 xk)
        have hsz4 := HB4.out.size
        go_wp2_with (at_builtin; refine wpList_append_lies _ rfl _ _ 40 rfl w2.heap.size 3 i0 (.int .i64 0) 1 8 Try.underlying40 hi hz0 hz1 hz2 rfl (by decide) _ _ _ rfl (HR4.out.alloc _) ⟨w4.heap.size, 0, none⟩ 1 1 [.int .i64 ((xt - u) * 16 + xk)] rfl rfl (cell_one_new _ _ _) (by simp [Value.oneCell']) (by decide) (by unfold maxLen; omega) (by omega) (by simp; omega) _ rfl ?_; intro g2 cap2 w5 hown' hgrow hg2 _; have KE5 := Lib.hid ((KE4.out.alloc (.cells #[.int .i64 ((xt - u) * 16 + xk)] 3)).grown hgrow (fun e => by have := (HR.out.lt _ e.symm).2; omega)); have HB5 := Lib.hid (below_appended HR4.out (by omega) HB4.out hgrow); have HR5 := Lib.hid hown'; clear hown' hgrow; have e0 := Zv KE5.out 0 (.int .i64 xk); have e1 := Zv KE5.out 1 (.int .i64 xt); have e2 := Zv KE5.out 2 (.int .i64 xa); have e3 := Zv KE5.out 3 (.int .i64 xb); have e4 := Zv KE5.out 4 (.int .i64 xc); have e5 := Zv KE5.out 5 (.int .i64 xq); have e6 := Zv KE5.out 6 (.int .i64 xi); have e7 := Zv KE5.out 7 (.int .i64 xh); have e8 := Zv KE5.out 8 (.bool xp))
        refine (numbers_any ⟨xk, xt, xa, xb, xc, ⟨xq, xi, xh, xp⟩⟩ HM.out w5).mono ?_
        rintro e w6 ⟨g6, c6, rfl, hr6, hb6⟩
        have HB6 := Zt HB5 hb6
        have HR6 := Lib.hid (ownsRow_below HR5.out hb6)
        have KE6 := Zk KE5 hb6
        have hsz6 := HB6.out.size
        have hln := N.nums_len ⟨xk, xt, xa, xb, xc, ⟨xq, xi, xh, xp⟩⟩
        clear hb6 e0 e1 e2 e3 e4 e5 e6 e7 e8 c0' c1'
        go_wp2_with (at_builtin; refine wpList_append_own _ rfl _ _ 40 rfl w2.heap.size 3 i0 (.int .i64 0) 1 8 Try.underlying40 hi hz0 hz1 hz2 rfl (by decide) _ _ _ rfl HR6.out ⟨g6, 0, none⟩ (N.nums ⟨xk, xt, xa, xb, xc, ⟨xq, xi, xh, xp⟩⟩).length c6 ((N.nums ⟨xk, xt, xa, xb, xc, ⟨xq, xi, xh, xp⟩⟩).map (Value.int .i64)) rfl (by simp) (N.row_cells hr6.out) (ints_one _ _) (by unfold maxLen; omega) (by omega) (by omega) ?_; intro v' w7 hown7 hgrow7 _; obtain ⟨a7, cap7, rfl⟩ := ownsRow_form hown7; have KE7 := Lib.hid (KE6.out.grown hgrow7 (fun e => by have e' : wr.heap.size = g2 := Option.some.inj e; rcases hg2 with hg | hg; have := (HR.out.lt _ hg).2; omega; have hg' := hg.symm.symm.trans (show (World.alloc w4 _).heap.size = w4.heap.size + 1 by simp); have := KE4.out.lt; omega)); have HB7 := Lib.hid (below_appended0 HR6.out (by omega) HB6.out hgrow7); have HR7 := Lib.hid hown7; clear hown7 hgrow7; have e1 := Zv KE7.out 1 (.int .i64 xt))
        go_roundw
        case rel => exact ⟨i + 1, a7, cap7, m + 1 + (N.nums ⟨xk, xt, xa, xb, xc, ⟨xq, xi, xh, xp⟩⟩).length, xt, rfl, rfl, by go_num, by omega, by omega, Lib.hid (by rw [N.take_ok HX.out, N.last_append]; rfl), Lib.hid (by rw [N.take_ok HX.out, N.ok_append]; exact ⟨HO.out, HM.out, by rw [← HU.out]; simp only; omega, trivial⟩), Lib.hid (by
          have := HR7.out
          rw [N.take_ok HX.out, N.flat_append, ← HU.out]
          simpa [N.flat, Int.mul_comm] using this), HB7⟩
        case measure => simp [intOf]; omega
    · have hd : decide ((i : Int) < n) = false := by simp; omega
      have HL : Hid (l.take i = l) := Lib.hid (List.take_of_length_le (by rw [HT.out.1]; omega))
      rw [HL.out] at HO HR
      have HF := Lib.hid (N.flat_isn l t HK.out HO.out)
      obtain ⟨a2, c2, hv, hm, hr⟩ := ownsRow_rowIn HR.out (fun x hx => wf_num (HF.out x hx))
      injection hv with hv1 hv2 hv3
      subst hv1 hv3 hm
      have HS := Lib.hid hr
      have HP : Hid (N.put t l = M.all (N.flat t l)) := Lib.hid (if_pos ⟨HK.out, HO.out⟩)
      clear hr
      go_wp2_with fail
      refine (allRow_any a1 (N.flat t l).length c1 (N.flat t l) wr rfl HS.out).mono ?_
      rintro e w3 ⟨a2, c2, n2, rfl, h1, h2, hb⟩
      have HB3 := Zt HB hb
      clear hb
      go_wp2_with fail
      go_ret2
      unfold N.PutIs
      rw [HP.out]
      exact ⟨a2, c2, n2, rfl, h1, h2, HB3.out⟩
end Go.Proofs.Ytebiogadkamgcaa
