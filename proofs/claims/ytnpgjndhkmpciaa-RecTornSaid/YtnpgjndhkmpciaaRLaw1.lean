/-
  Walks of moorings/mooringslaw05: awake, RecLong: for every input they return true.
-/
import Derived.Test.YtnpgjndhkmpciaaRScan
import Derived.Test.YtnpgjndhkmpciaaRSame
namespace Go.Proofs.Ytnpgjndhkmpciaa
open Go.RowKit

theorem ret_bool {a b : Bool} (h : a = b) : Ending.returned (.bool a) = .returned (.bool b) := by rw [h]

/-! The chapter's example -/
theorem R.ok7 : R.ok ((7, []) : R.T) := ⟨by decide, by decide, by decide⟩
theorem R.bytes7 : R.bytes ((7, []) : R.T) = 7 :: 0 :: C.four (C.sum [7, 0]) := by
  have h0 : M.put ((([] : List Int).length : Nat) : Int) = [0] := by rw [M.put_yes (by decide) (by decide)]; exact M.puts_lt (by decide)
  unfold R.bytes R.pre
  rw [h0]
  simp only [C.seal, List.append_nil, List.cons_append, List.nil_append]
theorem R.done7 : R.Done (R.bytes ((7, []) : R.T)) [(7, [])] 6 :=
  ⟨⟨by rw [R.bytes7]; decide, by intro r hr; simp only [List.mem_singleton] at hr; rw [hr]; exact R.ok7, by simp [R.all, R.bytes7, C.four]⟩, by
    rw [List.drop_eq_nil_of_le (by rw [R.bytes7]; exact Nat.le_refl 6), R.head_cut (.inl rfl)]; decide⟩
theorem R.get7 : R.get (R.bytes ((7, []) : R.T)) 0 = (0, (7, []), 6) := by
  have := R.head_bytes R.ok7 []
  rw [List.append_nil] at this
  have h := R.get_ok (L := R.bytes ((7, []) : R.T)) (p := 0) (by omega) (by rw [List.drop_zero]; exact this)
  have hl : (R.bytes ((7, []) : R.T)).length = 6 := by rw [R.bytes7]; rfl
  rw [hl] at h
  exact h

theorem put7_any (w : World) : Calls Try.prog 12 #[.agg #[.int .i64 7, .slice none 0 0]] w fun e w' => ∃ b off cap, e = .returned (.tuple #[.slice (some ⟨b, off, none⟩) 6 cap, .bool true]) ∧ Hid (RowIn .u8 w' (some ⟨b, off, none⟩) cap (R.bytes (7, []))) ∧ Below w.heap.size w w' :=
  (recPut_any 7 none 0 0 [] w rfl (row_nil _ _) (fun _ => ⟨rfl, rfl⟩)).mono fun e w' ⟨a', cap', n', h1, h2, h3, h4, h5⟩ => by
    rw [R.put_yes R.ok7] at h1 h2 h3
    have hn : n' = 6 := by rw [← h2.out]; show (R.bytes (7, [])).length = 6; rw [R.bytes7]; rfl
    subst hn
    obtain ⟨b, off, rfl, _⟩ := row_at (L := R.bytes (7, [])) h3.out (i := 0) (by rw [R.bytes7]; simp [C.four])
    exact ⟨b, off, cap', h1, h3, h5⟩
theorem get7_any (b off cap : Nat) (w : World) (h : RowIn .u8 w (some ⟨b, off, none⟩) cap (R.bytes (7, []))) : Calls Try.prog 14 #[.slice (some ⟨b, off, none⟩) 6 cap, .int .i64 0] w fun e w' => ∃ a c, e = .returned (.tuple #[.agg #[.int .i64 7, .slice a 0 c], .int .i64 6, .int .i64 0]) ∧ Hid (RowIn .u8 w' a c []) ∧ Below w.heap.size w w' :=
  (recGet_any (some ⟨b, off, none⟩) 6 cap 0 (R.bytes (7, [])) w (by decide) (by rw [R.bytes7]; rfl) h (fun h => by cases h)).mono fun e w' ⟨a, n, c, h1, h2, h3, _, _, h4⟩ => by
    rw [R.get7] at h1 h2 h3
    have hn : n = 0 := h2.out.symm
    subst hn
    exact ⟨a, c, h1, h3, h4⟩
theorem scan7_any (b off cap : Nat) (w : World) (h : RowIn .u8 w (some ⟨b, off, none⟩) cap (R.bytes (7, []))) : Calls Try.prog 16 #[.slice (some ⟨b, off, none⟩) 6 cap] w fun e w' => ∃ a c, e = .returned (.tuple #[.slice a 1 c, .int .i64 6]) ∧ Below w.heap.size w w' :=
  (scan_any (some ⟨b, off, none⟩) 6 cap (R.bytes (7, [])) w (by decide) (by rw [R.bytes7]; rfl) h (fun h => by cases h)).mono fun e w' ⟨a, n, c, xs, h1, h2, h3, _, h4⟩ => by
    obtain ⟨d1, d2⟩ := R.done7.eq
    rw [← d2] at h1
    have hx := h3.out
    rw [← d1] at hx
    have hn : n = 1 := by rw [← h2.out, ← RP.recs_len, hx]; rfl
    subst hn
    exact ⟨a, c, h1, h4⟩

theorem same7_any (a : Option Addr) (c : Nat) (w : World) (h : RowIn .u8 w a c []) : Calls Try.prog 20 #[.agg #[.int .i64 7, .slice a 0 c], .agg #[.int .i64 7, .slice none 0 0]] w fun e w' => e = .returned (.bool true) ∧ Below w.heap.size w w' :=
  (same_any 7 7 a none 0 0 c 0 [] [] w rfl rfl h (row_nil _ _)).mono fun e w' ⟨h1, h2⟩ => ⟨by rw [h1]; rfl, h2⟩

set_option maxRecDepth 100000 in
set_option maxHeartbeats 1000000 in
theorem awake_any (w : World) : Calls Try.prog 10 #[] w fun e w' => e = .returned (.bool true) ∧ Below w.heap.size w w' := by
  go_enter Try.func10, Try.ntmps10
  go_wp2_with fail
  refine (put7_any w).mono ?_
  rintro e w1 ⟨b, off, cap, rfl, R1, hb1⟩
  have W1 := Lib.hid hb1
  clear hb1
  go_wp2_with fail
  refine (get7_any b off cap _ R1.out).mono ?_
  rintro e w2 ⟨a2, c2, rfl, R2, hb2⟩
  have B2 := Lib.hid (hb2.trans ((recBox_below w2 7 a2 0 c2).mono hb2.size))
  have W2 := Lib.hid (W1.out.trans (B2.out.mono W1.out.size))
  have RB2 := Lib.hid (R1.out.below B2.out)
  clear hb2
  go_wp2_with fail
  refine (scan7_any b off cap (recBox w2 7 a2 0 c2) RB2.out).mono ?_
  rintro e w3 ⟨a3, c3, rfl, hb3⟩
  have k0 := recBox_kind w2 7 a2 0 c2 hb3
  have k1 := recBox_body w2 7 a2 0 c2 hb3
  have W3 := Lib.hid (W2.out.trans (hb3.mono W2.out.size))
  have RB3 := RB2.out.below hb3
  have HR3 := Lib.hid (R2.out.below ((recBox_below w2 7 a2 0 c2).trans (hb3.mono (recBox_below w2 7 a2 0 c2).size)))
  obtain ⟨b', o', he, _, p0⟩ := row_at RB3 (i := 0) (by rw [R.bytes7]; simp [C.four])
  cases he
  obtain ⟨b', o', he, _, p1⟩ := row_at RB3 (i := 1) (by rw [R.bytes7]; simp [C.four])
  cases he
  rw [R.bytes7] at p0 p1
  have q0 : w3.cell? ⟨b, off, none⟩ = some (.int .u8 7) := p0
  have q1 : w3.cell? ⟨b, off + 1, none⟩ = some (.int .u8 0) := p1
  clear p0 p1 RB3 hb3
  go_wp2_with fail
  refine (same7_any a2 c2 _ HR3.out).mono ?_
  rintro e w4 ⟨rfl, hb4⟩
  have W4 := Lib.hid (W3.out.trans (hb4.mono W3.out.size))
  clear hb4
  go_wp2
  go_ret
  exact ⟨rfl, W4.out⟩
end Go.Proofs.Ytnpgjndhkmpciaa
