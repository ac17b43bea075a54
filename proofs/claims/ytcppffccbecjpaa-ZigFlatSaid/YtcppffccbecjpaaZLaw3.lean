/-
  Walks of moorings/mooringslaw02.ZigClose and moorings/mooringslaw02.ZigFlat: for every input they return true.
-/
import Derived.Test.YtcppffccbecjpaaZLaw1
namespace Go.Proofs.Ytcppffccbecjpaa
open Go.RowKit

theorem close_short (a0 : Option Addr) (l0 c0 : Nat) (w : World) (h : 300 < l0) :
    Calls Try.prog 5 #[.slice a0 l0 c0] w fun e w' => e = .returned (.bool true) ∧ Below w.heap.size w w' := by
  have d1 : decide (300 < (l0 : Int)) = true := by simp; omega
  go_enter Try.func5, Try.ntmps5
  go_wp2_with fail
  refine (awake_any _).mono ?_
  rintro e w1 ⟨rfl, hb1⟩
  have hb : Hid (Below w.heap.size w w1) := Lib.hid hb1
  clear hb1
  go_wp2
  go_ret
  exact ⟨rfl, hb.out⟩

/-- What the list that is built is like. -/
def Close (l : List Int) (k : Nat) (last : Int) : Prop := l.length = k ∧ l.getLastD 0 = last ∧ (∀ n ∈ l, 0 ≤ n ∧ n ≤ 63 * k) ∧ ∀ x ∈ Z.pl 0 l, 0 ≤ x ∧ x < 128
theorem Close.bd {l : List Int} {k : Nat} {last : Int} (h : Close l k last) : 0 ≤ last ∧ last ≤ 63 * k := by
  obtain ⟨h1, rfl, h3, _⟩ := h
  rw [List.getLastD_eq_getLast?]
  cases hl : l.getLast? with
  | none => simp; omega
  | some x => exact h3 x (List.mem_of_getLast? hl)
theorem Close.step {l : List Int} {k : Nat} {last x : Int} (h : Close l k last) (h0 : -64 ≤ x) (h1 : x ≤ 63) (h2 : 0 ≤ last + x) : Close (l ++ [last + x]) (k + 1) (last + x) := by
  have hb := h.bd
  obtain ⟨g1, g2, g3, g4⟩ := h
  refine ⟨by simp [g1], by simp, ?_, ?_⟩
  · intro n hn
    rcases List.mem_append.1 hn with hn | hn
    · have := g3 n hn; omega
    · simp only [List.mem_singleton] at hn; subst hn; omega
  · intro y hy
    rw [Z.pl_snoc, g2] at hy
    rcases List.mem_append.1 hy with hy | hy
    · exact g4 y hy
    · simp only [List.mem_singleton] at hy
      subst hy
      rw [show last + x - last = x by omega, Z.zig_in (by omega)]
      split <;> omega
theorem Close.steps {l : List Int} {k : Nat} {last : Int} (h : Close l k last) (hk : k ≤ 300) : ∃ b, Z.steps l = some b ∧ b.length = k := by
  obtain ⟨g1, g2, g3, g4⟩ := h
  refine ⟨_, Z.steps_some.2 ⟨by omega, fun n hn => by have := g3 n hn; unfold Z.isl; omega, rfl⟩, ?_⟩
  rw [Z.bytes_one g4, Z.pl_len, g1]
theorem Close.wf {l : List Int} {k : Nat} {last : Int} (h : Close l k last) (hk : k ≤ 300) : ∀ n ∈ l, (Lit.int .i64 n).wf = true := fun n hn => wf_num (by have := h.2.2.1 n hn; unfold M.isn; omega)

set_option maxRecDepth 100000 in
set_option maxHeartbeats 2000000 in
theorem close_in (a0 : Option Addr) (l0 c0 : Nat) (L : List Int) (w : World) (h0 : L.length = l0) (r0 : RowIn .i64 w a0 c0 L) (hl0 : l0 ≤ 300) :
    Calls Try.prog 5 #[.slice a0 l0 c0] w fun e w' => e = .returned (.bool true) ∧ Below w.heap.size w w' := by
  obtain ⟨i0, hi, hz0, hz1, hz2⟩ := info_parts info3
  have d1 : decide (300 < (l0 : Int)) = false := by simp; omega
  have L0 := Lib.hid h0
  have R0 := Lib.hid r0
  clear h0 r0
  go_enter Try.func5, Try.ntmps5
  go_wp2_with fail
  refine (awake_any _).mono ?_
  rintro e w1 ⟨rfl, hb1⟩
  have W1 := Lib.hid hb1
  clear hb1
  go_wp2
  go_loopw [4, 5, 6] (fun v x i wr => ∃ (k : Nat) (l : List Int) (last : Int) (a : Option Addr) (c : Nat), v = .slice a k c ∧ x = .int .i64 last ∧ i = .int .i64 k ∧ k ≤ l0 ∧ Hid (Close l k last) ∧ wr.ownsRow w1.heap.size 3 1 (.slice a k c) k (l.map (Value.int .i64)) ∧ Below w1.heap.size w1 wr) (fun _ _ i _ => l0 - (intOf i).toNat)
  case atStart => exact ⟨0, [], 0, none, 0, rfl, rfl, rfl, by omega, Lib.hid ⟨rfl, rfl, by simp, by simp [Z.pl]⟩, World.ownsRow_nil _ _ _ _, Below.refl _ _⟩
  case round =>
    obtain ⟨k, l, last, a, c, rfl, rfl, rfl, hk, HC, hown, hB⟩ := hrel
    have hBs := hB.size
    by_cases hlt : k < l0
    · have hkL : k < L.length := by rw [L0.out]; exact hlt
      obtain ⟨b, off, rfl, hb, hc⟩ := row_at (R0.out.below W1.out) hkL
      obtain ⟨x, hx⟩ : ∃ x, L.getD k 0 = x := ⟨_, rfl⟩
      have hcell : wr.cell? ⟨b, off + k, none⟩ = some (.int .i64 x) := by rw [← hx]; exact (hB.cell (p := ⟨b, off + k, none⟩) hb).trans hc
      have HX := Lib.hid hx
      obtain ⟨hl1, hl2⟩ := HC.out.bd
      clear hx hkL hc
      by_cases h64 : x < -64
      · go_wp2
        go_ret
        exact ⟨rfl, W1.out.trans (hB.mono W1.out.size)⟩
      · have h64' : decide (x < -64) = false := by simp; omega
        by_cases h63 : 63 < x
        · go_wp2
          go_ret
          exact ⟨rfl, W1.out.trans (hB.mono W1.out.size)⟩
        · have h63' : decide (63 < x) = false := by simp; omega
          by_cases hn : last + x < 0
          · go_wp2
            go_ret
            exact ⟨rfl, W1.out.trans (hB.mono W1.out.size)⟩
          · have hn' : decide (last + x < 0) = false := by simp; omega
            have HS := Lib.hid (HC.out.step (x := x) (by omega) (by omega) (by omega))
            go_wp2_with (at_builtin; refine wpList_append_own _ rfl _ _ 25 rfl w1.heap.size 3 i0 (.int .i64 0) 1 8 Try.underlying25 hi hz0 hz1 hz2 rfl (by decide) _ _ _ rfl (hown.alloc _) ⟨wr.heap.size, 0, none⟩ 1 1 [.int .i64 (last + x)] rfl rfl (cell_one_new _ _ _) (by simp [Value.oneCell']) (by unfold maxLen; omega) (by omega) (by simp; omega) ?_; intro v' w2 hown' hgrow _; obtain ⟨a2, c2, rfl⟩ := ownsRow_form hown')
            go_roundw
            case rel => exact ⟨k + 1, l ++ [last + x], last + x, a2, c2, rfl, rfl, by go_num, by omega, HS, by simpa using hown', below_appended hown (by omega) hB hgrow⟩
            case measure => simp [intOf]; omega
    · have hkl : k = l0 := by omega
      obtain ⟨bs, hs1, hs2⟩ := HC.out.steps (by omega)
      have hrow := row3_like hown (HC.out.wf (by omega))
      have HR := Lib.hid hrow
      have HS1 := Lib.hid hs1
      have HS2 := Lib.hid hs2
      have HLl := Lib.hid HC.out.1
      have hd : decide (k < l0) = false := by simp; omega
      clear hs1 hs2 hrow hkl
      go_wp2_with fail
      refine (stepsRow_any _ k _ l _ HLl.out HR.out).mono ?_
      rintro e w3 ⟨a3, c3, n3, rfl, l3, r3, hb3⟩
      rw [HS1.out] at l3
      rw [HS1.out]
      obtain rfl : n3 = k := by rw [← l3.out]; exact HS2.out
      have W3 := Lib.hid ((W1.out.trans (hB.mono W1.out.size)).trans (hb3.mono (Nat.le_trans W1.out.size hB.size)))
      clear hb3
      go_wp2
      go_ret
      exact ⟨rfl, W3.out⟩

theorem close_any (a0 : Option Addr) (l0 c0 : Nat) (z0 : List Int) (w : World) (w0 : IsRow .i64 w a0 l0 c0 z0) :
    Calls Try.prog 5 #[.slice a0 l0 c0] w fun e w' => e = .returned (.bool true) ∧ Below w.heap.size w w' := by
  by_cases h0 : 300 < l0
  · exact close_short a0 l0 c0 w h0
  · exact close_in a0 l0 c0 _ w w0.rowIn.2 w0.rowIn.1 (by omega)

/-- The bytes of a list of one number. -/
theorem Z.pl_same (n : Int) : ∀ m, Z.pl n (List.replicate m n) = List.replicate m 0
  | 0 => rfl
  | m + 1 => by
    rw [List.replicate_succ, Z.pl, Z.pl_same n m, List.replicate_succ, show n - n = 0 by omega]
    rfl
theorem put_zero : M.put 0 = [0] := by rw [M.put_yes (by decide) (by decide), M.puts_lt (by decide)]; rfl
theorem flat_zero : ∀ m, (List.replicate m (0 : Int)).flatMap M.put = List.replicate m 0
  | 0 => rfl
  | m + 1 => by rw [List.replicate_succ, List.flatMap_cons, flat_zero m, put_zero]; rfl
theorem Z.steps_same {n : Int} (h : Z.isl n) (m : Nat) (hm : m < 400) : Z.steps (List.replicate (m + 1) n) = some (M.put (Z.zig n) ++ List.replicate m 0) := by
  refine Z.steps_some.2 ⟨by simp; omega, fun x hx => by rw [List.eq_of_mem_replicate hx]; exact h, ?_⟩
  rw [List.replicate_succ, Z.pl, List.flatMap_cons, Z.pl_same, flat_zero, show n - 0 = n by omega]

theorem flat_short (n many : Int) (a0 : Option Addr) (l0 c0 : Nat) (w : World) (h : n < 0 ∨ (0 ≤ n ∧ 274877906944 ≤ n) ∨ (0 ≤ n ∧ n < 274877906944 ∧ many < 1) ∨ (0 ≤ n ∧ n < 274877906944 ∧ 1 ≤ many ∧ 300 < many) ∨ (0 ≤ n ∧ n < 274877906944 ∧ 1 ≤ many ∧ many ≤ 300 ∧ 300 < l0)) :
    Calls Try.prog 7 #[.int .i64 n, .int .i64 many, .slice a0 l0 c0] w fun e w' => e = .returned (.bool true) ∧ Below w.heap.size w w' := by
  rcases h with h1 | ⟨h1, h2⟩ | ⟨h1, h2, h3⟩ | ⟨h1, h2, h3, h4⟩ | ⟨h1, h2, h3, h4, h5⟩
  all_goals
    try (have d1 : decide (300 < (l0 : Int)) = true := by simp; omega)
    go_enter Try.func7, Try.ntmps7
    go_wp2_with fail
    refine (awake_any _).mono ?_
    rintro e w1 ⟨rfl, hb1⟩
    have hb : Hid (Below w.heap.size w w1) := Lib.hid hb1
    clear hb1
    go_wp2
    go_ret
    exact ⟨rfl, hb.out⟩

theorem one_row (w : World) (x : Int) (k : IntKind) (t : TypeId) (hx : (Lit.int k x).wf = true) : RowIn k (w.alloc (.cells #[.int k x] t)) (some ⟨w.heap.size, 0, none⟩) 1 [x] :=
  (Blok.new w t #[.int k x]).row (L := [x]) (by simp [hx]) (by simp) (by simp [maxLen])

set_option maxRecDepth 100000 in
set_option maxHeartbeats 4000000 in
theorem flat_in (n : Int) (m : Nat) (a0 : Option Addr) (l0 c0 : Nat) (L : List Int) (w : World) (hl : L.length = l0) (r0 : RowIn .i64 w a0 c0 L) (n0 : 0 ≤ n) (n1 : n < 274877906944) (m0 : 1 ≤ m) (m1 : m ≤ 300) (hl0 : l0 ≤ 300) :
    Calls Try.prog 7 #[.int .i64 n, .int .i64 m, .slice a0 l0 c0] w fun e w' => e = .returned (.bool true) ∧ Below w.heap.size w w' := by
  obtain ⟨i0, hi, hz0, hz1, hz2⟩ := info_parts info3
  obtain ⟨q, rfl⟩ : ∃ q, m = q + 1 := ⟨m - 1, by omega⟩
  have d1 : decide (300 < (l0 : Int)) = false := by simp; omega
  have d2 : decide (274877906944 ≤ n) = false := by simp; omega
  have d3 : decide (300 < (q : Int) + 1) = false := by simp; omega
  have hisl : Z.isl n := ⟨n0, n1⟩
  have hwf : (Lit.int .i64 n).wf = true := wf_num (by unfold M.isn; omega)
  obtain ⟨K, hK⟩ : ∃ K, List.replicate (q + 1) n = K := ⟨_, rfl⟩
  obtain ⟨P, hP⟩ : ∃ P, M.put (Z.zig n) = P := ⟨_, rfl⟩
  have hb1 : Z.steps K = some (P ++ List.replicate q 0) := by rw [← hK, ← hP]; exact Z.steps_same hisl q (by omega)
  have hb2 : Z.steps [n] = some P := by have := Z.steps_same hisl 0 (by omega); rw [hP] at this; simpa using this
  obtain ⟨lp, hlp⟩ : ∃ l, P.length = l := ⟨_, rfl⟩
  have hlen : (P ++ List.replicate q (0 : Int)).length = lp + q := by rw [List.length_append, hlp]; simp
  have hlp6 : lp ≤ 6 := by rw [← hlp, ← hP]; exact M.put_len6 _
  have hKw : ∀ x ∈ K, (Lit.int .i64 x).wf = true := by intro x hx; rw [← hK] at hx; rw [List.eq_of_mem_replicate hx]; exact hwf
  obtain ⟨same, hsame⟩ : ∃ b, decide (K = L) = b := ⟨_, rfl⟩
  obtain ⟨has, hhas⟩ : ∃ b, (Z.steps L).isSome = b := ⟨_, rfl⟩
  obtain ⟨sb, hsb⟩ : ∃ s, strOf (P ++ List.replicate q 0) = s := ⟨_, rfl⟩
  obtain ⟨sc, hsc⟩ : ∃ s, strOf ((Z.steps L).getD []) = s := ⟨_, rfl⟩
  have F : has = false ∨ (has = true ∧ (sb.toList == sc.toList) = same) := by
    cases hs : Z.steps L with
    | none => rw [hs] at hhas; exact .inl hhas.symm
    | some x =>
      refine .inr ⟨by rw [← hhas, hs]; rfl, ?_⟩
      rw [← hsb, ← hsc, hs, Option.getD_some, str_beq (Z.steps_byte hb1) (Z.steps_byte hs), ← hsame]
      rw [Bool.eq_iff_iff, decide_eq_true_iff, decide_eq_true_iff]
      constructor
      · intro h; rw [h] at hb1; exact Z.steps_inj hb1 hs
      · intro h; rw [h] at hb1; rw [hb1] at hs; exact Option.some.inj hs
  have HK := Lib.hid hK
  have HB1 := Lib.hid hb1
  have HB2 := Lib.hid hb2
  have HLP := Lib.hid hlp
  have HLEN := Lib.hid hlen
  have HKW := Lib.hid hKw
  have HSA := Lib.hid hsame
  have HHA := Lib.hid hhas
  have HSB := Lib.hid hsb
  have HSC := Lib.hid hsc
  have HWF := Lib.hid hwf
  have L0 := Lib.hid hl
  have R0 := Lib.hid r0
  have HKL : Hid (K.length = q + 1) := Lib.hid (by rw [← hK]; simp)
  clear hK hP hb1 hb2 hlp hlen hKw hsame hhas hsb hsc hl r0 hisl hwf
  go_enter Try.func7, Try.ntmps7
  go_wp2_with fail
  refine (awake_any _).mono ?_
  rintro e w1 ⟨rfl, hb1⟩
  have W1 := Lib.hid hb1
  clear hb1
  go_wp2
  go_loopw [8, 9] (fun v i wr => ∃ (k : Nat) (a : Option Addr) (c : Nat), v = .slice a k c ∧ i = .int .i64 k ∧ k ≤ q + 1 ∧ wr.ownsRow w1.heap.size 3 1 (.slice a k c) k ((List.replicate k n).map (Value.int .i64)) ∧ Below w1.heap.size w1 wr) (fun _ i _ => q + 1 - (intOf i).toNat)
  case atStart => exact ⟨0, none, 0, rfl, rfl, by omega, World.ownsRow_nil _ _ _ _, Below.refl _ _⟩
  case round =>
    obtain ⟨k, a, c, rfl, rfl, hk, hown, hB⟩ := hrel
    have hBs := hB.size
    by_cases hlt : k < q + 1
    · have hlt' : (k : Int) < (q : Int) + 1 := by omega
      go_wp2_with (at_builtin; refine wpList_append_own _ rfl _ _ 25 rfl w1.heap.size 3 i0 (.int .i64 0) 1 8 Try.underlying25 hi hz0 hz1 hz2 rfl (by decide) _ _ _ rfl (hown.alloc _) ⟨wr.heap.size, 0, none⟩ 1 1 [.int .i64 n] rfl rfl (cell_one_new _ _ _) (by simp [Value.oneCell']) (by unfold maxLen; omega) (by omega) (by simp; omega) ?_; intro v' w2 hown' hgrow _; obtain ⟨a2, c2, rfl⟩ := ownsRow_form hown')
      go_roundw
      case rel => exact ⟨k + 1, a2, c2, rfl, by go_num, by omega, by rw [List.replicate_succ']; simpa using hown', below_appended hown (by omega) hB hgrow⟩
      case measure => simp [intOf]; omega
    · obtain rfl : k = q + 1 := by omega
      rw [HK.out] at hown
      have HR := Lib.hid (row3_like hown HKW.out)
      have WR := Lib.hid (W1.out.trans (hB.mono W1.out.size))
      have hd : decide ((q : Int) + 1 < (q : Int) + 1) = false := by simp
      clear hown hB
      go_wp2_with fail
      refine (stepsRow_any _ (q + 1) _ K _ HKL.out HR.out).mono ?_
      rintro e w3 ⟨a3, c3, n3, rfl, l3, r3, hb3⟩
      rw [HB1.out] at l3 r3
      rw [HB1.out]
      simp only [Option.getD_some] at l3 r3
      obtain rfl : n3 = lp + q := by rw [← l3.out]; exact HLEN.out
      have B3 := Lib.hid hb3
      have W3 := Lib.hid (WR.out.trans (hb3.mono WR.out.size))
      clear hb3
      go_wp2_with fail
      refine (stepsRow_any _ 1 _ [n] _ rfl (one_row w3 n .i64 3 HWF.out)).mono ?_
      rintro e w4 ⟨a4, c4, n4, rfl, l4, r4, hb4⟩
      rw [HB2.out] at l4 r4
      rw [HB2.out]
      simp only [Option.getD_some] at l4 r4
      obtain rfl : lp = n4 := by rw [← l4.out]; exact HLP.out.symm
      have R34 := Lib.hid ((r3.out.below ((Below.refl _ w3).alloc (Nat.le_refl _) (.cells #[.int .i64 n] 3))).below hb4)
      have RK4 := Lib.hid (((HR.out.below B3.out).below ((Below.refl _ w3).alloc (Nat.le_refl _) (.cells #[.int .i64 n] 3))).below hb4)
      have W4 := Lib.hid ((W3.out.alloc W3.out.size (.cells #[.int .i64 n] 3)).trans (hb4.mono (by have := W3.out.size; simp; omega)))
      clear hb4
      go_wp2_with fail
      refine (stepsRow_any _ l0 _ L _ L0.out (R0.out.below W4.out)).mono ?_
      rintro e w5 ⟨a5, c5, n5, rfl, l5, r5, hb5⟩
      rw [HHA.out]
      have B5 := Lib.hid hb5
      have W5 := Lib.hid (W4.out.trans (hb5.mono W4.out.size))
      clear hb5
      go_wp2_with fail
      refine (ints_any _ _ (q + 1) l0 _ _ K L _ HKL.out L0.out (RK4.out.below B5.out) (R0.out.below W5.out)).mono ?_
      rintro e w6 ⟨rfl, hb6⟩
      rw [HSA.out]
      have B6 := Lib.hid hb6
      have W6 := Lib.hid (W5.out.trans (hb6.mono W5.out.size))
      clear hb6
      have R6 := Lib.hid ((R34.out.below B5.out).below B6.out)
      have cb := conv_row R6.out HLEN.out
      have cc := conv_row (r5.out.below B6.out) l5.out
      rw [HSB.out] at cb
      rw [HSC.out] at cc
      have F' : has = false ∨ (has = true ∧ (sb.toList == sc.toList) = same ∧ ((sb.toList == sc.toList) != same) = false) := by
        rcases F with h | ⟨h1, h2⟩
        · exact .inl h
        · exact .inr ⟨h1, h2, by rw [h2]; simp⟩
      clear F
      have hq1 : ((lp : Int) + q != (lp : Int) + ((q : Int) + 1) - 1) = false := by simp; omega
      rcases F' with rfl | ⟨rfl, e1, e2⟩
      all_goals
        go_wp2
        clear cb cc
        go_loop [17] (fun i => ∃ j : Nat, lp ≤ j ∧ j ≤ lp + q ∧ i = .int .i64 j) (fun i => lp + q - (intOf i).toNat)
        case atStart => exact ⟨lp, by omega, by omega, rfl⟩
        case round =>
          obtain ⟨j, hj1, hj2, rfl⟩ := hrel
          by_cases hjl : j < lp + q
          · have hjl' : (j : Int) < (lp : Int) + q := by omega
            obtain ⟨b, off, rfl, hb, hc⟩ := row_at (i := j) R6.out (by rw [HLEN.out]; exact hjl)
            have hg : (P ++ List.replicate q (0 : Int)).getD j 0 = 0 := by
              rw [List.getD_eq_getElem?_getD, List.getElem?_append_right (by rw [HLP.out]; omega)]
              simp [List.getElem?_replicate]
              split <;> rfl
            rw [hg] at hc
            clear hg
            go_wp2
            go_round
            case rel => exact ⟨j + 1, by omega, by omega, by go_num⟩
            case measure => simp [intOf]; omega
          · have hjl' : decide ((j : Int) < (lp : Int) + q) = false := by simp; omega
            go_wp2
            go_ret
            exact ⟨rfl, W6.out⟩

theorem flat_any (n many : Int) (a0 : Option Addr) (l0 c0 : Nat) (z0 : List Int) (w : World) (w0 : IsRow .i64 w a0 l0 c0 z0) :
    Calls Try.prog 7 #[.int .i64 n, .int .i64 many, .slice a0 l0 c0] w fun e w' => e = .returned (.bool true) ∧ Below w.heap.size w w' := by
  by_cases h : 0 ≤ n ∧ n < 274877906944 ∧ 1 ≤ many ∧ many ≤ 300 ∧ l0 ≤ 300
  · obtain ⟨h1, h2, h3, h4, h5⟩ := h
    obtain ⟨m, rfl⟩ : ∃ m : Nat, many = m := ⟨many.toNat, by omega⟩
    exact flat_in n m a0 l0 c0 _ w w0.rowIn.2 w0.rowIn.1 h1 h2 (by omega) (by omega) h5
  · exact flat_short n many a0 l0 c0 w (by omega)
end Go.Proofs.Ytcppffccbecjpaa
