/-
  Walk of moorings/mooringslaw05.RecScans: for every input it returns true.
-/
import Derived.Test.YtnpgjndhkmpciaaRLaw1
import Derived.Test.YtnpgjndhkmpciaaRLists
import Derived.Test.YtnpgjndhkmpciaaRRefScan
import Derived.Test.YtnpgjndhkmpciaaReg
namespace Go.Proofs.Ytnpgjndhkmpciaa
open Go.RowKit

theorem R.done_from {L : List Int} (hw : C.wf L) : ∀ (f : Nat) (xs : List R.T) (p : Nat), R.Part L xs p → L.length - p ≤ f → ∃ ys q, R.Done L ys q
  | 0, xs, p, hP, hf => by
    refine ⟨xs, p, hP, ?_⟩
    rw [List.drop_eq_nil_of_le (by omega), R.head_cut (.inl rfl)]
    decide
  | f + 1, xs, p, hP, hf => by
    rcases R.head_cases (L.drop p) with ⟨e, he, hh⟩ | ⟨r, s, hh⟩
    · exact ⟨xs, p, hP, by rw [hh]; exact he⟩
    · obtain ⟨h1, h2, _⟩ := hP.step hw hh
      exact R.done_from hw f _ _ h1 (by omega)
/-- The records of bytes are all that there are. -/
theorem R.done_recs {L : List Int} (hw : C.wf L) : R.Done L (R.recs L) (R.stop L) := by
  obtain ⟨ys, q, hd⟩ := R.done_from hw L.length [] 0 (R.Part.start L) (by omega)
  obtain ⟨h1, h2⟩ := hd.eq
  rw [← h1, ← h2]
  exact hd
theorem exec_slice0 {o : Oper} {ρ : Operand → Value} {x hi : Operand} {a : Option Addr} {len cap h : Nat} (ho : o.op = .slice 22 x none (some hi) none) (hx : ρ x = .slice a len cap) (hhi : ρ hi = .int .i64 (h : Int)) (h2 : h ≤ cap) (w : World) :
    (execOp ρ o).run Try.prog w = .ok (.value (.slice (sl a 0 cap) h cap)) w := by
  have hs : (sizeOf (Try.prog.elem 22)).run Try.prog w = .ok 1 w := rfl
  have hr : (Instr.sliceAt 22 (.slice a len cap) none (some (.int .i64 (h : Int))) none).run Try.prog w = .ok (.slice (sl a 0 cap) h cap) w := by
    rw [run_sliceAt_slice (w := w) (h := Try.underlying22), run_slice_h (w := w) (ht := Try.underlying22) (h0 := by omega) (h2 := by omega), hs]
    simp [Result.andThen, sliced, sl]
  unfold execOp
  simp only [ho, Option.map_some, Option.map_none, hx, hhi, Sem.run_bind, hr, Result.andThen, Sem.run_pure]

theorem scans_big (a : Option Addr) (n cap : Nat) (w : World) (h : 3000 < n) :
    Calls Try.prog 7 #[.slice a n cap] w fun e w' => e = .returned (.bool true) ∧ Below w.heap.size w w' := by
  have HBX := Lib.hid (Below.refl w.heap.size w)
  have d1 : decide ((3000 : Int) < (n : Int)) = true := by simp; omega
  go_enter Try.func7, Try.ntmps7
  go_wp2_with fail
  refine (awake_any (w)).mono ?_
  rintro e w1 ⟨rfl, hb1⟩
  have B1 : Hid (Below (w).heap.size (w) w1) := Lib.hid hb1
  have W1 : Hid (Below w.heap.size w w1) := B1
  clear hb1
  go_wp2
  go_ret
  exact ⟨rfl, W1.out⟩

set_option maxRecDepth 100000 in
set_option maxHeartbeats 1000000 in
theorem scans_in (a : Option Addr) (n cap : Nat) (L : List Int) (w : World) (hl : L.length = n) (hr : RowIn .u8 w a cap L) (hz : a = none → n = 0 ∧ cap = 0) (h : n ≤ 3000) :
    Calls Try.prog 7 #[.slice a n cap] w fun e w' => e = .returned (.bool true) ∧ Below w.heap.size w w' := by
  have HBX := Lib.hid (Below.refl w.heap.size w)
  have d1 : decide ((3000 : Int) < (n : Int)) = false := by simp; omega
  have h9 : n ≤ 90000 := by omega
  have hd := R.done_recs (C.lit_wf hr.2.1)
  obtain ⟨p, hp⟩ : ∃ p, R.stop L = p := ⟨_, rfl⟩
  rw [hp] at hd
  have HST := Lib.hid hp
  have hpn : p ≤ n := by have := hd.1.1; omega
  have hpc : p ≤ cap := by have := hr.1.1; omega
  have hcm : cap ≤ maxLen := hr.1.2
  have h6 := hd.1.len
  have HJ : Hid (R.join (R.recs L) = some (L.take p)) := Lib.hid (by unfold R.join; rw [if_pos hd.1.2.1, hd.1.2.2])
  obtain ⟨e1, he1⟩ : ∃ e, (R.get L p).1 = e := ⟨_, rfl⟩
  have he0 : e1 ≠ 0 := by rw [← he1, R.get_at hd.1.1]; exact hd.2
  have HE1 := Lib.hid he1
  obtain ⟨sv, hsv⟩ : ∃ s, strOf (L.take p) = s := ⟨_, rfl⟩
  have HSV := Lib.hid hsv
  have q1 : (e1 == 0) = false := by simpa using he0
  have q2 : (e1 != 0) = true := by simpa using he0
  have q3 : decide ((0 : Int) ≤ (p : Int)) = true := by simp
  have q4 : decide ((p : Int) ≤ (n : Int)) = true := by simp; omega
  have hk : (R.recs L).length ≤ 1000 := by omega
  have LT : Hid ((L.take p).length = p) := Lib.hid (by simp; omega)
  have HL := Lib.hid hl
  have HR := Lib.hid hr
  have HZ := Lib.hid hz
  clear hl hr hz hd hp h6 he1 he0 hsv
  go_enter Try.func7, Try.ntmps7
  go_wp2_with fail
  refine (awake_any (w)).mono ?_
  rintro e w1 ⟨rfl, hb1⟩
  have B1 : Hid (Below (w).heap.size (w) w1) := Lib.hid hb1
  have W1 : Hid (Below w.heap.size w w1) := B1
  clear hb1
  go_wp2_with fail
  refine (scan_any a n cap L _ h9 HL.out (HR.out.below B1.out) HZ.out).mono ?_
  rintro e w2 ⟨a2, n2, c2, xs, rfl, l2, x2, r2, hb2⟩
  rw [HST.out]
  have C2 := Lib.hid hb2
  have B2 := Lib.hid (B1.out.trans (hb2.mono B1.out.size))
  have W2 := Lib.hid (W1.out.trans (hb2.mono W1.out.size))
  clear hb2
  have hn2 : n2 ≤ 1000 := by rw [← l2.out, ← RP.recs_len, x2.out]; exact hk
  go_wp2_with fail
  refine (joined_any a2 n2 c2 xs _ hn2 l2.out r2.out).mono ?_
  rintro e w3 ⟨a3, n3, c3, rfl, l3, r3, z3, hb3⟩
  have C3 := Lib.hid hb3
  have B3 := Lib.hid (B2.out.trans (hb3.mono B2.out.size))
  have W3 := Lib.hid (W2.out.trans (hb3.mono W2.out.size))
  clear hb3
  rw [x2.out, HJ.out] at l3 r3
  rw [x2.out, HJ.out]
  have hsm : (some (L.take p)).isSome = true := rfl
  go_wp2_with fail
  refine (recGet_any a n cap p L _ h9 HL.out (HR.out.below B3.out) HZ.out).mono ?_
  rintro e w4 hget
  obtain ⟨⟨k4, a4, n4, c4, B4'⟩, rfl, _, _, _, hb4⟩ := hget.place
  rw [HE1.out]
  have C4 := Lib.hid (hb4.trans ((recBox_below w4 k4 a4 n4 c4).mono hb4.size))
  have W5 := Lib.hid (W3.out.trans (C4.out.mono W3.out.size))
  have RA := Lib.hid (HR.out.below W5.out)
  have R3 := Lib.hid (show RowIn .u8 (recBox w4 k4 a4 n4 c4) a3 c3 (L.take p) from r3.out.below C4.out)
  have L3 := Lib.hid (show (L.take p).length = n3 from l3.out)
  clear hget hb4 hsm
  obtain ⟨w5, hw5⟩ : ∃ w5, w5 = recBox w4 k4 a4 n4 c4 := ⟨_, rfl⟩
  rw [← hw5] at RA R3 W5
  have RB := Lib.hid (show RowIn .u8 w5 (sl a 0 cap) cap (L.take p) from by have := row_sliced RA.out (l := 0) (h := p) (m := cap) (by omega) (by rw [HL.out]; exact hpn) hpc hcm; simpa using this)
  go_wp2_with fail
  refine wp_region_held (S := fun w' => Below w5.heap.size w5 w') (by kernel_rfl) ?_
  have hw6 : World.drew (recBox w4 k4 a4 n4 c4) = World.drew w5 := by rw [hw5]
  change wpAnyH _ _ _ _ _ _ _ _ (World.drew (recBox w4 k4 a4 n4 c4))
  rw [hw6]
  have HS0 : (fun w' => Below w5.heap.size w5 w') (World.drew w5) := below_drew w5
  refine wpAnyH_take (i := 0) (v := (.bool true)) rfl (by kernel_rfl) (by kernel_rfl) (by kernel_rfl) (fun _ _ _ h => h) (.inl ⟨by kernel_rfl, fun w9 hS => by kernel_rfl⟩) HS0 ?_
  refine wpAnyH_take (i := 1) (v := (.bool true)) rfl (by kernel_rfl) (by kernel_rfl) (by kernel_rfl) (fun _ _ _ h => h) (.inl ⟨by kernel_rfl, fun w9 hS => by kernel_rfl⟩) HS0 ?_
  refine wpAnyH_take (i := 2) (v := (.int .i64 (p : Int))) rfl (by kernel_rfl) (by kernel_rfl) (by kernel_rfl) (fun _ _ _ h => h) (.inl ⟨by kernel_rfl, fun w9 hS => by kernel_rfl⟩) HS0 ?_
  refine wpAnyH_take (i := 3) (v := (.bool true)) rfl (by kernel_rfl) (by kernel_rfl) (by kernel_rfl) (fun _ _ _ h => h) (.inl ⟨by kernel_rfl, fun w9 hS => (show _ = Result.ok (.value (.bool (decide ((0 : Int) ≤ (p : Int))))) w9 by kernel_rfl).trans (by rw [q3])⟩) HS0 ?_
  refine wpAnyH_take (i := 4) (v := (.bool true)) rfl (by kernel_rfl) (by kernel_rfl) (by kernel_rfl) (fun _ _ _ h => h) (.inl ⟨by kernel_rfl, fun w9 hS => by kernel_rfl⟩) HS0 ?_
  refine wpAnyH_take (i := 5) (v := (.bool true)) rfl (by kernel_rfl) (by kernel_rfl) (by kernel_rfl) (fun _ _ _ h => h) (.inl ⟨by kernel_rfl, fun w9 hS => by kernel_rfl⟩) HS0 ?_
  refine wpAnyH_take (i := 6) (v := (.int .i64 (p : Int))) rfl (by kernel_rfl) (by kernel_rfl) (by kernel_rfl) (fun _ _ _ h => h) (.inl ⟨by kernel_rfl, fun w9 hS => by kernel_rfl⟩) HS0 ?_
  refine wpAnyH_take (i := 7) (v := (.slice a n cap)) rfl (by kernel_rfl) (by kernel_rfl) (by kernel_rfl) (fun _ _ _ h => h) (.inl ⟨by kernel_rfl, fun w9 hS => by kernel_rfl⟩) HS0 ?_
  refine wpAnyH_take (i := 8) (v := (.int .i64 (n : Int))) rfl (by kernel_rfl) (by kernel_rfl) (by kernel_rfl) (fun _ _ _ h => h) (.inl ⟨by kernel_rfl, fun w9 hS => by kernel_rfl⟩) HS0 ?_
  refine wpAnyH_take (i := 9) (v := (.bool true)) rfl (by kernel_rfl) (by kernel_rfl) (by kernel_rfl) (fun _ _ _ h => h) (.inl ⟨by kernel_rfl, fun w9 hS => (show _ = Result.ok (.value (.bool (decide ((p : Int) ≤ (n : Int))))) w9 by kernel_rfl).trans (by rw [q4])⟩) HS0 ?_
  refine wpAnyH_take (i := 10) (v := (.bool true)) rfl (by kernel_rfl) (by kernel_rfl) (by kernel_rfl) (fun _ _ _ h => h) (.inl ⟨by kernel_rfl, fun w9 hS => by kernel_rfl⟩) HS0 ?_
  refine wpAnyH_take (i := 11) (v := (.bool true)) rfl (by kernel_rfl) (by kernel_rfl) (by kernel_rfl) (fun _ _ _ h => h) (.inl ⟨by kernel_rfl, fun w9 hS => by kernel_rfl⟩) HS0 ?_
  refine wpAnyH_take (i := 12) (v := (.slice a3 n3 c3)) rfl (by kernel_rfl) (by kernel_rfl) (by kernel_rfl) (fun _ _ _ h => h) (.inl ⟨by kernel_rfl, fun w9 hS => by kernel_rfl⟩) HS0 ?_
  refine wpAnyH_take (i := 13) (v := (.string sv)) rfl (by kernel_rfl) (by kernel_rfl) (by kernel_rfl) (fun _ _ _ h => h) (.inl ⟨by kernel_rfl, fun w9 hS => by have k := conv_row (R3.out.below hS) L3.out; rw [HSV.out] at k; go_simp⟩) HS0 ?_
  refine wpAnyH_take (i := 14) (v := (.slice a n cap)) rfl (by kernel_rfl) (by kernel_rfl) (by kernel_rfl) (fun _ _ _ h => h) (.inl ⟨by kernel_rfl, fun w9 hS => by kernel_rfl⟩) HS0 ?_
  refine wpAnyH_take (i := 15) (v := (.int .i64 (p : Int))) rfl (by kernel_rfl) (by kernel_rfl) (by kernel_rfl) (fun _ _ _ h => h) (.inl ⟨by kernel_rfl, fun w9 hS => by kernel_rfl⟩) HS0 ?_
  refine wpAnyH_take (i := 16) (v := (.slice (sl a 0 cap) p cap)) rfl (by kernel_rfl) (by kernel_rfl) (by kernel_rfl) (fun _ _ _ h => h) (.inl ⟨by kernel_rfl, fun w9 hS => exec_slice0 (a := a) (len := n) (cap := cap) (h := p) rfl (by kernel_rfl) (by kernel_rfl) hpc w9⟩) HS0 ?_
  refine wpAnyH_take (i := 17) (v := (.string sv)) rfl (by kernel_rfl) (by kernel_rfl) (by kernel_rfl) (fun _ _ _ h => h) (.inl ⟨by kernel_rfl, fun w9 hS => by have k := conv_row (RB.out.below hS) LT.out; rw [HSV.out] at k; go_simp⟩) HS0 ?_
  refine wpAnyH_take (i := 18) (v := (.bool true)) rfl (by kernel_rfl) (by kernel_rfl) (by kernel_rfl) (fun _ _ _ h => h) (.inl ⟨by kernel_rfl, fun w9 hS => (show _ = Result.ok (.value (.bool (sv.toList == sv.toList))) w9 by kernel_rfl).trans (by rw [beq_self_eq_true])⟩) HS0 ?_
  refine wpAnyH_take (i := 19) (v := (.bool true)) rfl (by kernel_rfl) (by kernel_rfl) (by kernel_rfl) (fun _ _ _ h => h) (.inl ⟨by kernel_rfl, fun w9 hS => by kernel_rfl⟩) HS0 ?_
  refine wpAnyH_take (i := 20) (v := (.bool true)) rfl (by kernel_rfl) (by kernel_rfl) (by kernel_rfl) (fun _ _ _ h => h) (.inl ⟨by kernel_rfl, fun w9 hS => by kernel_rfl⟩) HS0 ?_
  refine wpAnyH_take (i := 21) (v := (.int .i64 e1)) rfl (by kernel_rfl) (by kernel_rfl) (by kernel_rfl) (fun _ _ _ h => h) (.inl ⟨by kernel_rfl, fun w9 hS => by kernel_rfl⟩) HS0 ?_
  refine wpAnyH_take (i := 22) (v := (.bool true)) rfl (by kernel_rfl) (by kernel_rfl) (by kernel_rfl) (fun _ _ _ h => h) (.inl ⟨by kernel_rfl, fun w9 hS => (show _ = Result.ok (.value (.bool (e1 != 0))) w9 by kernel_rfl).trans (by rw [q2])⟩) HS0 ?_
  refine wpAnyH_take (i := 23) (v := (.bool true)) rfl (by kernel_rfl) (by kernel_rfl) (by kernel_rfl) (fun _ _ _ h => h) (.inl ⟨by kernel_rfl, fun w9 hS => by kernel_rfl⟩) HS0 ?_
  refine wpAnyH_take (i := 24) (v := (.bool true)) rfl (by kernel_rfl) (by kernel_rfl) (by kernel_rfl) (fun _ _ _ h => h) (.inl ⟨by kernel_rfl, fun w9 hS => by kernel_rfl⟩) HS0 ?_
  refine wpAnyH_done (by kernel_rfl) ?_ _
  go_wp2
  go_ret
  exact ⟨rfl, W5.out.trans (Below.mono HS0 W5.out.size)⟩

theorem scans_law (a : Option Addr) (n cap : Nat) (z : List Int) (w : World) (h : IsRow .u8 w a n cap z) :
    Calls Try.prog 7 #[.slice a n cap] w fun e w' => e = .returned (.bool true) ∧ Below w.heap.size w w' := by
  by_cases hb : 3000 < n
  · exact scans_big a n cap w hb
  · exact scans_in a n cap _ w h.rowIn.2 h.rowIn.1 h.nil (by omega)
end Go.Proofs.Ytnpgjndhkmpciaa
