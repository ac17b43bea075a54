/-
  The chapter's example: awake. What the laws say of events, plainly.
-/
import Derived.Test.YtebiogadkamgcaaNRead
import Derived.Test.YtebiogadkamgcaaNSame
import Derived.Test.YtebiogadkamgcaaYOne
namespace Go.Proofs.Ytebiogadkamgcaa
open Go.RowKit
theorem N.put_len1 {n : Int} (h0 : 0 ≤ n) (h1 : n < 128) : (M.put n).length = 1 := by
  rw [M.put_yes h0 (by omega), M.puts_lt (by omega)]; rfl
theorem N.put_len2 {n : Int} (h0 : 0 ≤ n) (h1 : n < 16384) : 1 ≤ (M.put n).length ∧ (M.put n).length ≤ 2 := by
  by_cases h : n < 128
  · rw [N.put_len1 h0 h]; decide
  · rw [M.put_yes (by omega) (by omega), M.puts_ge (by omega), M.puts_lt (by omega)]; simp
theorem N.put_len5 {n : Int} (h0 : 0 ≤ n) (h1 : n < 34359738368) : 1 ≤ (M.put n).length ∧ (M.put n).length ≤ 5 := by
  rw [M.put_yes (by omega) (by omega)]
  by_cases c1 : n.toNat < 128
  · rw [M.puts_lt c1]; simp
  rw [M.puts_ge (by omega)]
  by_cases c2 : n.toNat / 128 < 128
  · rw [M.puts_lt c2]; simp
  rw [M.puts_ge (by omega)]
  by_cases c3 : n.toNat / 128 / 128 < 128
  · rw [M.puts_lt c3]; simp
  rw [M.puts_ge (by omega)]
  by_cases c4 : n.toNat / 128 / 128 / 128 < 128
  · rw [M.puts_lt c4]; simp
  rw [M.puts_ge (by omega), M.puts_lt (by omega)]; simp
def N.ev0 : Y.Ev := ⟨0, 7, 2, 1, 3, Y.zp⟩
theorem N.ev0_put : N.put 5 [N.ev0] = some [32, 75] := by
  refine N.put_some.2 ⟨by decide, by decide, by decide, ?_⟩
  have e : N.flat 5 [N.ev0] = [32, 75] := by decide
  rw [e]
  simp only [List.flatMap_cons, List.flatMap_nil, List.append_nil]
  rw [M.put_yes (by decide) (by decide), M.put_yes (by decide) (by decide), M.puts_lt (by decide), M.puts_lt (by decide)]
  rfl
theorem N.ev0_read : N.read 5 [32, 75] = some [N.ev0] := N.read_some.2 N.ev0_put
set_option maxRecDepth 100000 in
set_option maxHeartbeats 400000 in
theorem nawake_any (w : World) : Calls Try.prog 10 #[] w fun e w' => e = .returned (.bool true) ∧ Below w.heap.size w w' := by
  obtain ⟨w1, hw1, hb, hk⟩ := Zn w 34 #[.int .i64 0, .int .i64 7, .int .i64 2, .int .i64 1, .int .i64 3, .int .i64 0, .int .i64 0, .int .i64 0, .bool false]
  have HB1 := Lib.hid hb
  have HV1 : Hid (VIn w1 (some ⟨w.heap.size, 0, none⟩) 1 1 [N.ev0]) := Lib.hid (vin_one N.ev0 hk)
  have KE1 := Lib.hid hk
  clear hb hk
  go_enter Try.func10, Try.ntmps10
  go_wp2_with fail
  refine (evPut_any 5 (some ⟨w.heap.size, 0, none⟩) 1 1 [N.ev0] w1 HV1.out (by decide)).mono ?_
  rintro e w2 ⟨a2, c2, n2, rfl, h1, h2, hb⟩
  rw [N.ev0_put] at h1 h2 ⊢
  simp only [Option.getD_some, Option.isSome_some, List.length_cons, List.length_nil] at h1 h2 ⊢
  have e2 := h1.out
  subst e2
  have HB2 := Zt HB1 hb
  have HV2 := Lib.hid (HV1.out.below hb)
  have KE2 := Zk KE1 hb
  clear hb h1
  go_wp2_with fail
  refine (evRead_any 5 a2 2 c2 [32, 75] w2 rfl h2.out).mono ?_
  rintro e w3 ⟨a3, c3, n3, rfl, h3, h4, hb⟩
  rw [N.ev0_read] at h3 h4 ⊢
  simp only [Option.getD_some, Option.isSome_some, List.length_cons, List.length_nil] at h3 h4 ⊢
  have e3 := h3.out
  subst e3
  have HB3 := Zt HB2 hb
  have HV3 := Lib.hid (HV2.out.below hb)
  have KE3 := Zk KE2 hb
  have s1 := conv_row (h2.out.below hb) (show ([32, 75] : List Int).length = 2 from rfl)
  rw [show strOf [32, 75] = ByteArray.mk #[32, 75] from rfl] at s1
  clear hb h3
  go_wp2_with fail
  refine (evSame_any a3 (some ⟨w.heap.size, 0, none⟩) 1 1 c3 1 [N.ev0] [N.ev0] w3 h4.out HV3.out (by decide) true (decide_eq_true rfl)).mono ?_
  rintro e w4 ⟨rfl, hb⟩
  have HB4 := Zt HB3 hb
  have KE4 := Zk KE3 hb
  clear hb s1
  have v0 := Zv KE4.out 0 (.int .i64 0)
  have v1 := Zv KE4.out 1 (.int .i64 7)
  have v2 := Zv KE4.out 2 (.int .i64 2)
  have v3 := Zv KE4.out 3 (.int .i64 1)
  have v4 := Zv KE4.out 4 (.int .i64 3)
  have v5 := Zv KE4.out 5 (.int .i64 0)
  have v6 := Zv KE4.out 6 (.int .i64 0)
  have v7 := Zv KE4.out 7 (.int .i64 0)
  have v8 := Zv KE4.out 8 (.bool false)
  go_wp2_with fail
  refine (evMay_any N.ev0 true (by decide) w4).mono ?_
  rintro e w5 ⟨rfl, hb⟩
  have HB5 := Zt HB4 hb
  clear hb
  go_wp2_with fail
  go_ret
  exact ⟨rfl, HB5.out⟩
/-- A grant, or a release, alone. -/
theorem N.short {t : Int} {e : Y.Ev} {b : List Int} (h : N.put t [e] = some b) (hk : e.k = 0 ∨ e.k = 1) : 2 ≤ b.length ∧ b.length ≤ 7 ∧ (e.t = t → b.length ≤ 3) := by
  obtain ⟨ht, ⟨hm, hl, -⟩, -, rfl⟩ := N.put_some.1 h
  unfold N.tick at ht
  have h1 := hm.1
  have hn := N.nums01 hk
  obtain ⟨-, h2⟩ := hm
  have h3 : (0 ≤ e.a ∧ e.a ≤ 31) ∧ (0 ≤ e.b ∧ e.b ≤ 3) ∧ (0 ≤ e.c ∧ e.c ≤ 7) := by
    rcases h2 with ⟨k1, h1, h2, h3, -⟩ | ⟨k1, h1, h2, h3, -⟩ | ⟨k1, h1, h2, h3, -⟩ | ⟨k1, h1, h2, h3, -⟩ | ⟨k1, h1, h2, h3, -⟩
    · exact ⟨h1, h2, h3⟩
    all_goals (exfalso; omega)
  have p1 := N.put_len5 (n := 16 * (e.t - t) + e.k) (by omega) (by omega)
  have p2 := N.put_len2 (n := 32 * e.a + 8 * e.b + e.c) (by omega) (by omega)
  simp only [N.flat, hn, List.flatMap_cons, List.flatMap_nil, List.append_nil, List.length_append]
  refine ⟨by omega, by omega, fun he => ?_⟩
  have p3 := N.put_len1 (n := 16 * (e.t - t) + e.k) (by omega) (by omega)
  omega
/-- Two lists, one behind the other. -/
theorem N.joins {t : Int} {l : List Y.Ev} (k : Nat) (hl : l.length ≤ 60) : N.put t l = match N.put t (l.take k), N.put (N.last t (l.take k)) (l.drop k) with | some x, some y => some (x ++ y) | _, _ => none := by
  have e : l = l.take k ++ l.drop k := (List.take_append_drop k l).symm
  obtain ⟨x, hx⟩ : ∃ x, l.take k = x := ⟨_, rfl⟩
  obtain ⟨y, hy⟩ : ∃ y, l.drop k = y := ⟨_, rfl⟩
  rw [hx, hy] at e ⊢
  have hlen : x.length + y.length ≤ 60 := by rw [e, List.length_append] at hl; exact hl
  rw [e]
  have f1 := N.flat_le x t
  have f2 := N.flat_le y (N.last t x)
  cases h1 : N.put t x with
  | none =>
    simp only
    unfold N.put at h1 ⊢
    refine if_neg fun hh => ?_
    have hok := ((N.ok_append x y t).1 hh.2).1
    rw [if_pos ⟨hh.1, hok⟩, all_good (by omega) (N.flat_isn x t hh.1 hok)] at h1
    cases h1
  | some b1 =>
    obtain ⟨ht, hok, -, rfl⟩ := N.put_some.1 h1
    have htl := N.last_tick x t ht hok
    cases h2 : N.put (N.last t x) y with
    | none =>
      simp only
      unfold N.put at h2 ⊢
      refine if_neg fun hh => ?_
      have hok2 := ((N.ok_append x y t).1 hh.2).2
      rw [if_pos ⟨htl, hok2⟩, all_good (by omega) (N.flat_isn y _ htl hok2)] at h2
      cases h2
    | some b2 =>
      obtain ⟨-, hok2, -, rfl⟩ := N.put_some.1 h2
      simp only
      refine N.put_some.2 ⟨ht, (N.ok_append x y t).2 ⟨hok, hok2⟩, by rw [N.flat_append, List.length_append]; omega, ?_⟩
      rw [N.flat_append, List.flatMap_append]
/-- Bytes that are cut off. -/
theorem N.cut {t : Int} {l x : List Y.Ev} {b : List Int} {k : Nat} (h : N.put t l = some b) (hx : N.read t (b.take k) = some x) : ∃ y, l = x ++ y := by
  obtain ⟨ht, hok, -, hb⟩ := N.put_some.1 h
  obtain ⟨-, hok', -, hb'⟩ := N.put_some.1 (N.read_some.1 hx)
  have e : (N.flat t x).flatMap M.put ++ b.drop k = (N.flat t l).flatMap M.put := by rw [← hb', ← hb, List.take_append_drop]
  obtain ⟨r, hr, -⟩ := flat_prefix _ _ _ (N.flat_isn x t ht hok') (N.flat_isn l t ht hok) e
  obtain ⟨y, hy, -⟩ := N.flat_prefix' x l t r hok' hok hr.symm
  exact ⟨y, hy⟩
theorem N.put_nil (t : Int) : N.put t [] = if N.tick t then some [] else none := by
  unfold N.put
  by_cases h : N.tick t
  · rw [if_pos ⟨h, trivial⟩, if_pos h]; rfl
  · rw [if_neg (fun hh => h hh.1), if_neg h]
theorem N.read_nil (t : Int) : N.read t [] = if N.tick t then some [] else none := by
  by_cases h : N.tick t
  · rw [if_pos h]; exact N.read_some.2 (by rw [N.put_nil, if_pos h])
  · rw [if_neg h]; exact N.read_tick h
end Go.Proofs.Ytebiogadkamgcaa
