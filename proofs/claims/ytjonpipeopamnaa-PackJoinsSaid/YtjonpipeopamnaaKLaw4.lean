/-
  Walks of moorings/mooringslaw03.PackJoins: for every input it returns true.
-/
import Derived.Test.YtjonpipeopamnaaKLaw3
namespace Go.Proofs.Ytjonpipeopamnaa
open Go.RowKit

theorem joins_short (a0 : Option Addr) (l0 c0 : Nat) (v k : Int) (w : World) (h : 300 < l0 ∨ (l0 ≤ 300 ∧ k < 0) ∨ (l0 ≤ 300 ∧ 0 ≤ k ∧ 30 < k) ∨ (l0 ≤ 300 ∧ 0 ≤ k ∧ k ≤ 30 ∧ (l0 : Int) < 8 * k)) :
    Calls Try.prog 6 #[.slice a0 l0 c0, .int .i64 v, .int .i64 k] w fun e w' => e = .returned (.bool true) ∧ Below w.heap.size w w' := by
  rcases h with h1 | ⟨h1, h2⟩ | ⟨h1, h2, h3⟩ | ⟨h1, h2, h3, h4⟩
  · have d1 : decide (300 < (l0 : Int)) = true := by simp; omega
    go_enter Try.func6, Try.ntmps6
    go_wp2_with fail
    refine (awake_any _).mono ?_
    rintro e w1 ⟨rfl, hb1⟩
    have W1 := Lib.hid hb1
    clear hb1
    go_wp2
    go_ret
    exact ⟨rfl, W1.out⟩
  all_goals
    have d1 : decide (300 < (l0 : Int)) = false := by simp; omega
    go_enter Try.func6, Try.ntmps6
    go_wp2_with fail
    refine (awake_any _).mono ?_
    rintro e w1 ⟨rfl, hb1⟩
    have W1 := Lib.hid hb1
    clear hb1
    go_wp2
    go_ret
    exact ⟨rfl, W1.out⟩

theorem K.pack_len_le (L : List Int) (v : Int) : ((K.pack L v).getD []).length ≤ 1600 := by
  cases hp : K.pack L v with
  | none => simp
  | some x =>
    obtain ⟨u, rfl, hu, hq⟩ := K.pack_w hp
    have h1 := (K.pack_some.1 hq).1
    rw [Option.getD_some, K.pack_len hq]
    have h2 : L.length * u ≤ 400 * 32 := Nat.mul_le_mul h1 hu
    omega
theorem row_nil {k : IntKind} {w : World} {a : Option Addr} {cap : Nat} (h : cap ≤ maxLen) : RowIn k w a cap [] := ⟨⟨by simp, h⟩, by simp, .inl rfl⟩
theorem row_drop {k : IntKind} {w : World} {b off cap q : Nat} {L : List Int} (h : RowIn k w (some ⟨b, off, none⟩) cap L) (hq : q ≤ L.length) : RowIn k w (some ⟨b, off + q, none⟩) (cap - q) (L.drop q) := by
  refine ⟨⟨by have := h.1.1; simp; omega, by have := h.1.2; omega⟩, fun n hn => h.2.1 n (List.mem_of_mem_drop hn), ?_⟩
  rcases h.2.2 with rfl | ⟨b', off', hx, hb, hc⟩
  · exact .inl (by simp)
  · cases hx
    refine .inr ⟨_, _, rfl, hb, fun i hi => ?_⟩
    simp at hi
    have := hc (q + i) (by omega)
    rw [show off + q + i = off + (q + i) by omega, this]
    simp [show q + i < L.length by omega]

set_option maxRecDepth 100000 in
set_option maxHeartbeats 4000000 in
theorem joins_in (a0 : Option Addr) (l0 c0 j : Nat) (L : List Int) (v : Int) (w : World) (h0 : L.length = l0) (r0 : RowIn .i64 w a0 c0 L) (hl0 : l0 ≤ 300) (hj : j ≤ 30) (hjl : 8 * j ≤ l0) :
    Calls Try.prog 6 #[.slice a0 l0 c0, .int .i64 v, .int .i64 j] w fun e w' => e = .returned (.bool true) ∧ Below w.heap.size w w' := by
  have d1 : decide (300 < (l0 : Int)) = false := by simp; omega
  have hcap : l0 ≤ c0 ∧ c0 ≤ maxLen := by have := r0.1; omega
  obtain ⟨q, hq⟩ : ∃ q, 8 * j = q := ⟨_, rfl⟩
  have hqi : 8 * (j : Int) = (q : Int) := by omega
  have hql : q ≤ l0 := by omega
  obtain ⟨is, his⟩ : ∃ b, (K.pack L v).isSome = b := ⟨_, rfl⟩
  obtain ⟨one, hone⟩ : ∃ b, (K.pack (L.take q) v).isSome = b := ⟨_, rfl⟩
  obtain ⟨two, htwo⟩ : ∃ b, (K.pack (L.drop q) v).isSome = b := ⟨_, rfl⟩
  obtain ⟨sl, hsl⟩ : ∃ s, strOf ((K.pack L v).getD []) = s := ⟨_, rfl⟩
  obtain ⟨sa, hsa⟩ : ∃ s, strOf ((K.pack (L.take q) v).getD []) = s := ⟨_, rfl⟩
  obtain ⟨sb, hsb⟩ : ∃ s, strOf ((K.pack (L.drop q) v).getD []) = s := ⟨_, rfl⟩
  obtain ⟨nl, hnl⟩ : ∃ n, ((K.pack L v).getD []).length = n := ⟨_, rfl⟩
  have hsz : sa.size ≤ 1600 ∧ sb.size ≤ 1600 := by
    rw [← hsa, ← hsb, strOf_size, strOf_size]
    exact ⟨K.pack_len_le _ _, K.pack_len_le _ _⟩
  obtain ⟨hsz1, hsz2⟩ := hsz
  have F : is = false ∨ (is = true ∧ one = true ∧ two = true ∧ (sl.toList == (sa ++ sb).toList) = true ∧ (0 < v ∨ (v ≤ 0 ∧ nl = 0))) := by
    cases hp : K.pack L v with
    | none => rw [hp] at his; exact .inl his.symm
    | some x =>
      obtain ⟨u, rfl, hu, _⟩ := K.pack_w hp
      obtain ⟨y, z, hy, hz, hx⟩ := K.pack_joins (k := j) hp (by omega)
      rw [hq] at hy hz
      refine .inr ⟨by rw [← his, hp]; rfl, by rw [← hone, hy]; rfl, by rw [← htwo, hz]; rfl, ?_, ?_⟩
      · rw [← hsl, ← hsa, ← hsb, hp, hy, hz, Option.getD_some, Option.getD_some, Option.getD_some, strOf_append, hx]; simp
      · by_cases h1 : 0 < (u : Int)
        · exact .inl h1
        · obtain rfl : u = 0 := by omega
          refine .inr ⟨by omega, ?_⟩
          rw [← hnl, hp, Option.getD_some, K.pack_len hp]
          simp
  have Kis := Lib.hid his
  have Kone := Lib.hid hone
  have Ktwo := Lib.hid htwo
  have Ksl := Lib.hid hsl
  have Ksa := Lib.hid hsa
  have Ksb := Lib.hid hsb
  have Knl := Lib.hid hnl
  have LT : Hid ((L.take q).length = q) := Lib.hid (by simp; omega)
  have LD : Hid ((L.drop q).length = l0 - q) := Lib.hid (by simp; omega)
  have HD : Hid (∀ w', Below w.heap.size w w' → q < l0 → ∃ b off, a0 = some ⟨b, off, none⟩ ∧ RowIn .i64 w' (some ⟨b, off + q, none⟩) (c0 - q) (L.drop q)) := Lib.hid fun w' hb hlt => by
    obtain ⟨b, off, rfl, _, _⟩ := row_at (r0.below hb) (i := 0) (by omega)
    exact ⟨b, off, rfl, row_drop (r0.below hb) (by omega)⟩
  have HE : Hid (q = l0 → L.drop q = []) := Lib.hid fun h => List.drop_eq_nil_of_le (by omega)
  have L0 := Lib.hid h0
  have R0 := Lib.hid r0
  clear his hone htwo hsl hsa hsb hnl h0 r0
  go_enter Try.func6, Try.ntmps6
  go_wp2_with fail
  refine (awake_any _).mono ?_
  rintro e w1 ⟨rfl, hb1⟩
  have W1 := Lib.hid hb1
  clear hb1
  go_wp2_with fail
  refine (packRow_any _ l0 _ L v _ L0.out (R0.out.below W1.out)).mono ?_
  rintro e w2 ⟨a2, c2, n2, rfl, l2, r2, hb2⟩
  rw [Kis.out]
  have B2 := Lib.hid hb2
  have W2 := Lib.hid (W1.out.trans (hb2.mono W1.out.size))
  clear hb2
  rcases F with rfl | ⟨rfl, rfl, rfl, e1, e2⟩
  · go_wp2
    go_ret
    exact ⟨rfl, W2.out⟩
  · have hqc : ¬ ((q : Int) > (c0 : Int)) := by omega
    go_wp2_with fail
    refine (packRow_any _ q _ _ v _ LT.out ((R0.out.below W2.out).take q)).mono ?_
    rintro e w3 ⟨a3, c3, n3, rfl, l3, r3, hb3⟩
    rw [Kone.out]
    have B3 := Lib.hid hb3
    have W3 := Lib.hid (W2.out.trans (hb3.mono W2.out.size))
    clear hb3
    by_cases hlt : q < l0
    · obtain ⟨b, off, rfl, HR⟩ := HD.out _ W3.out hlt
      have HR' := Lib.hid HR
      have hqc2 : q < c0 := by omega
      clear HR
      go_wp2_with fail
      refine (packRow_any _ (l0 - q) _ _ v _ LD.out HR'.out).mono ?_
      rintro e w4 ⟨a4, c4, n4, rfl, l4, r4, hb4⟩
      rw [Ktwo.out]
      have B4 := Lib.hid hb4
      have W4 := Lib.hid (W3.out.trans (hb4.mono W3.out.size))
      clear hb4
      have cl := conv_row (((r2.out.below B3.out).below B4.out)) l2.out
      have ca := conv_row (r3.out.below B4.out) l3.out
      have cb := conv_row r4.out l4.out
      rw [Ksl.out] at cl
      rw [Ksa.out] at ca
      rw [Ksb.out] at cb
      have hn2 := l2.out
      rw [Knl.out] at hn2
      subst hn2
      rcases e2 with e2 | ⟨e2, rfl⟩
      · go_wp2
        go_ret
        exact ⟨rfl, W4.out⟩
      · have e3 : decide (0 < v) = false := by simp; omega
        go_wp2
        go_ret
        exact ⟨rfl, W4.out⟩
    · have hqe : q = l0 := by omega
      have HZ := HE.out hqe
      have LD0 : Hid ((L.drop q).length = l0 - q) := LD
      have HRZ : Hid (∀ w' a cap, cap ≤ maxLen → RowIn .i64 w' a cap (L.drop q)) := Lib.hid fun w' a cap h => by rw [HZ]; exact row_nil h
      clear HZ
      by_cases hcl : c0 = l0
      · go_wp2_with fail
        refine (packRow_any _ _ _ (L.drop q) v _ (by rw [LD.out]; omega) (HRZ.out _ _ _ (by omega))).mono ?_
        rintro e w4 ⟨a4, c4, n4, rfl, l4, r4, hb4⟩
        rw [Ktwo.out]
        have B4 := Lib.hid hb4
        have W4 := Lib.hid (W3.out.trans (hb4.mono W3.out.size))
        clear hb4
        have cl := conv_row (((r2.out.below B3.out).below B4.out)) l2.out
        have ca := conv_row (r3.out.below B4.out) l3.out
        have cb := conv_row r4.out l4.out
        rw [Ksl.out] at cl
        rw [Ksa.out] at ca
        rw [Ksb.out] at cb
        have hn2 := l2.out
        rw [Knl.out] at hn2
        subst hn2
        rcases e2 with e2 | ⟨e2, rfl⟩
        · go_wp2
          go_ret
          exact ⟨rfl, W4.out⟩
        · have e3 : decide (0 < v) = false := by simp; omega
          go_wp2
          go_ret
          exact ⟨rfl, W4.out⟩
      · go_wp2_with fail
        refine (packRow_any _ _ _ (L.drop q) v _ (by rw [LD.out]; omega) (HRZ.out _ _ _ (by omega))).mono ?_
        rintro e w4 ⟨a4, c4, n4, rfl, l4, r4, hb4⟩
        rw [Ktwo.out]
        have B4 := Lib.hid hb4
        have W4 := Lib.hid (W3.out.trans (hb4.mono W3.out.size))
        clear hb4
        have cl := conv_row (((r2.out.below B3.out).below B4.out)) l2.out
        have ca := conv_row (r3.out.below B4.out) l3.out
        have cb := conv_row r4.out l4.out
        rw [Ksl.out] at cl
        rw [Ksa.out] at ca
        rw [Ksb.out] at cb
        have hn2 := l2.out
        rw [Knl.out] at hn2
        subst hn2
        rcases e2 with e2 | ⟨e2, rfl⟩
        · go_wp2
          go_ret
          exact ⟨rfl, W4.out⟩
        · have e3 : decide (0 < v) = false := by simp; omega
          go_wp2
          go_ret
          exact ⟨rfl, W4.out⟩

theorem joins_law (a0 : Option Addr) (l0 c0 : Nat) (z0 : List Int) (v k : Int) (w : World) (w0 : IsRow .i64 w a0 l0 c0 z0) :
    Calls Try.prog 6 #[.slice a0 l0 c0, .int .i64 v, .int .i64 k] w fun e w' => e = .returned (.bool true) ∧ Below w.heap.size w w' := by
  by_cases h : l0 ≤ 300 ∧ 0 ≤ k ∧ k ≤ 30 ∧ 8 * k ≤ l0
  · obtain ⟨j, rfl⟩ : ∃ j : Nat, k = j := ⟨k.toNat, by omega⟩
    exact joins_in a0 l0 c0 j _ v w w0.rowIn.2 w0.rowIn.1 h.1 (by omega) (by omega)
  · exact joins_short a0 l0 c0 v k w (by omega)
end Go.Proofs.Ytjonpipeopamnaa
