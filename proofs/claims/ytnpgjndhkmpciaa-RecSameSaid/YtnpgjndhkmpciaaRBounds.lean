/-
  Walk of moorings/rec.bounds, at every slice of bytes and every place.
-/
import Derived.Test.YtnpgjndhkmpciaaRCut
namespace Go.Proofs.Ytnpgjndhkmpciaa
open Go.RowKit

/-- What bounds returns. -/
def BoundsIs (L : List Int) (p : Int) (w : World) (e : Ending) (w' : World) : Prop :=
  ∃ b s r : Int, e = .returned (.tuple #[.int .i64 b, .int .i64 s, .int .i64 r]) ∧ w = w' ∧
    Hid ((r ≠ 0 ∧ b = 0 ∧ s = 0 ∧ R.get L p = (r, (0, []), 0)) ∨
      (r = 0 ∧ ∃ q k n : Nat, p = q ∧ b = (q : Int) + 1 + k ∧ s = (q : Int) + 1 + k + n + 4 ∧ ¬ R.cut (L.drop q) ∧ M.head (L.drop q).tail = some ((n : Int), k) ∧ n ≤ 1000 ∧ q + 1 + k + n + 4 ≤ L.length))
theorem BoundsIs.no {L : List Int} {p r : Int} {w : World} (hr : r ≠ 0) (h : R.get L p = (r, (0, []), 0)) : BoundsIs L p w (.returned (.tuple #[.int .i64 0, .int .i64 0, .int .i64 r])) w :=
  ⟨0, 0, r, rfl, rfl, Lib.hid (.inl ⟨hr, rfl, rfl, h⟩)⟩

theorem bounds_out (a : Option Addr) (len cap : Nat) (p : Int) (L : List Int) (w : World) (hl : L.length = len) (h : p < 0 ∨ (len : Int) < p) :
    Calls Try.prog 26 #[.slice a len cap, .int .i64 p] w (BoundsIs L p w) := by
  have HG := Lib.hid (R.get_out (L := L) (p := p) (by omega))
  clear hl
  by_cases h0 : p < 0
  · clear h
    go_enter Try.func26, Try.ntmps26
    go_wp2
    go_ret3
    exact .no (by decide) HG.out
  · have h1 : (len : Int) < p := by omega
    clear h
    go_enter Try.func26, Try.ntmps26
    go_wp2
    go_ret3
    exact .no (by decide) HG.out

theorem bounds_end (a : Option Addr) (len cap : Nat) (L : List Int) (w : World) (hl : L.length = len) (h : RowIn .u8 w a cap L) (hn : a = none → len = 0 ∧ cap = 0) :
    Calls Try.prog 26 #[.slice a len cap, .int .i64 (len : Int)] w (BoundsIs L len w) := by
  have HG := Lib.hid (R.get_err (L := L) (p := len) (e := 4) (by omega) (by decide) (R.head_cut (.inl (List.drop_eq_nil_of_le (by omega)))))
  have hcap : len ≤ cap ∧ cap ≤ maxLen := by have := h.1; omega
  have hml : maxLen ≤ 9223372036854775807 := by decide
  have h0 : ¬ ((len : Int) < 0) := by omega
  have HT : Hid (decide (R.cut []) = true) := Lib.hid (by decide)
  clear hl h
  cases a with
  | none =>
    obtain ⟨rfl, rfl⟩ := hn rfl
    go_enter Try.func26, Try.ntmps26
    go_wp2_with fail
    refine (isCut_any _ 0 0 [] true _ rfl (row_any _ _ (by simp [maxLen])) HT.out).mono ?_
    rintro e w' ⟨rfl, rfl⟩
    go_wp2
    go_ret3
    exact .no (by decide) HG.out
  | some x =>
    clear hn
    by_cases hc : len = cap
    · subst hc
      go_enter Try.func26, Try.ntmps26
      go_wp2_with fail
      refine (isCut_any _ 0 _ [] true _ rfl (row_any _ _ (by simp [maxLen])) HT.out).mono ?_
      rintro e w' ⟨rfl, rfl⟩
      go_wp2
      go_ret3
      exact .no (by decide) HG.out
    · go_enter Try.func26, Try.ntmps26
      go_wp2_with fail
      refine (isCut_any _ 0 _ [] true _ rfl (row_any _ _ (by omega)) HT.out).mono ?_
      rintro e w' ⟨rfl, rfl⟩
      go_wp2
      go_ret3
      exact .no (by decide) HG.out

set_option maxRecDepth 100000 in
set_option maxHeartbeats 1000000 in
theorem bounds_in (b off len cap q : Nat) (L : List Int) (w : World) (hl : L.length = len) (h : RowIn .u8 w (some ⟨b, off, none⟩) cap L) (hq : q < len) :
    Calls Try.prog 26 #[.slice (some ⟨b, off, none⟩) len cap, .int .i64 (q : Int)] w (BoundsIs L q w) := by
  have hcap : len ≤ cap ∧ cap ≤ maxLen := by have := h.1; omega
  have hml : maxLen ≤ 9223372036854775807 := by decide
  have h0 : ¬ ((q : Int) < 0) := by omega
  have h1 : decide ((len : Int) < (q : Int)) = false := by simp; omega
  have hqc : ¬ q = cap := by omega
  have hq1 : q ≤ len := by omega
  have HD := Lib.hid (row_drop h (q := q) (by omega))
  have LD : Hid ((L.drop q).length = len - q) := Lib.hid (by simp; omega)
  have HL := Lib.hid hl
  have HR := Lib.hid h
  have HT : Hid ((L.drop q).tail = L.drop (q + 1)) := Lib.hid (by rw [List.tail_drop])
  by_cases hc : R.cut (L.drop q)
  · have HG := Lib.hid (R.get_err (L := L) (p := q) (e := 4) (by omega) (by decide) (R.head_cut hc))
    have HC := Lib.hid (decide_eq_true hc)
    clear hl h hc
    go_enter Try.func26, Try.ntmps26
    go_wp2_with fail
    refine (isCut_any _ (len - q) _ (L.drop q) true _ LD.out HD.out HC.out).mono ?_
    rintro e w' ⟨rfl, rfl⟩
    go_wp2
    go_ret3
    exact .no (by decide) HG.out
  · have HNC := Lib.hid hc
    have HC := Lib.hid (decide_eq_false hc)
    cases hm : M.head (L.drop q).tail with
    | none =>
      have HG := Lib.hid (R.get_err (L := L) (p := q) (e := 2) (by omega) (by decide) (R.head_none hc hm))
      rw [HT.out] at hm
      have HM := Lib.hid (get_none (q := q + 1) hm)
      clear hl h hc hm
      go_enter Try.func26, Try.ntmps26
      go_wp2_with fail
      refine (isCut_any _ (len - q) _ (L.drop q) false _ LD.out HD.out HC.out).mono ?_
      rintro e w' ⟨rfl, rfl⟩
      go_wp2_with fail
      refine (getIs_of (p := (q : Int) + 1) HM.out (get_any _ len _ _ L _ HL.out HR.out)).mono ?_
      rintro e w' ⟨rfl, rfl⟩
      go_wp2
      go_ret3
      exact .no (by decide) HG.out
    | some x =>
      obtain ⟨n, k⟩ := x
      have hi := (head_sound (fun c hc => byte_of h.2.1 c (List.mem_of_mem_drop (List.mem_of_mem_tail hc))) hm)
      have hk : q + 1 + k ≤ len := by have := hi.2.2.2.1; simp at this; omega
      have hn0 := hi.1.1
      have hn1 := hi.1.2
      obtain ⟨m, rfl⟩ : ∃ m : Nat, n = m := ⟨n.toNat, by omega⟩
      have HM : Hid (M.get L ((q : Int) + 1) = ((m : Int), (q : Int) + 1 + k)) := Lib.hid (by
        have := get_some (L := L) (q := q + 1) (n := m) (e := k) (by rw [← HT.out]; exact hm)
        simpa using this)
      have hneg : ¬ ((q : Int) + 1 + k < 0) := by omega
      clear hi
      by_cases hbig : 1000 < (m : Int)
      · have HG := Lib.hid (R.get_err (L := L) (p := q) (e := 2) (by omega) (by decide) (R.head_big hc hm hbig))
        clear hl h hc hm
        go_enter Try.func26, Try.ntmps26
        go_wp2_with fail
        refine (isCut_any _ (len - q) _ (L.drop q) false _ LD.out HD.out HC.out).mono ?_
        rintro e w' ⟨rfl, rfl⟩
        go_wp2_with fail
        refine (getIs_of (p := (q : Int) + 1) HM.out (get_any _ len _ _ L _ HL.out HR.out)).mono ?_
        rintro e w' ⟨rfl, rfl⟩
        go_wp2
        go_ret3
        exact .no (by decide) HG.out
      · have hm1 : m ≤ 1000 := by omega
        have hd1 : decide (1000 < (m : Int)) = false := by simp; omega
        have HM0 := Lib.hid hm
        by_cases hf : len < q + 1 + k + m + 4
        · have HG := Lib.hid (R.get_err (L := L) (p := q) (e := 4) (by omega) (by decide) (R.head_few hc hm hbig (by simp; omega)))
          have hf2 : (len : Int) - ((q : Int) + 1 + k) < (m : Int) + 4 := by omega
          clear hl h hc hm
          go_enter Try.func26, Try.ntmps26
          go_wp2_with fail
          refine (isCut_any _ (len - q) _ (L.drop q) false _ LD.out HD.out HC.out).mono ?_
          rintro e w' ⟨rfl, rfl⟩
          go_wp2_with fail
          refine (getIs_of (p := (q : Int) + 1) HM.out (get_any _ len _ _ L _ HL.out HR.out)).mono ?_
          rintro e w' ⟨rfl, rfl⟩
          go_wp2
          go_ret3
          exact .no (by decide) HG.out
        · have hf2 : decide ((len : Int) - ((q : Int) + 1 + k) < (m : Int) + 4) = false := by simp; omega
          have hfl : q + 1 + k + m + 4 ≤ len := by omega
          clear hl h hc hm
          go_enter Try.func26, Try.ntmps26
          go_wp2_with fail
          refine (isCut_any _ (len - q) _ (L.drop q) false _ LD.out HD.out HC.out).mono ?_
          rintro e w' ⟨rfl, rfl⟩
          go_wp2_with fail
          refine (getIs_of (p := (q : Int) + 1) HM.out (get_any _ len _ _ L _ HL.out HR.out)).mono ?_
          rintro e w' ⟨rfl, rfl⟩
          go_wp2
          go_ret3
          exact ⟨_, _, _, rfl, rfl, Lib.hid (.inr ⟨rfl, q, k, m, rfl, rfl, rfl, HNC.out, HM0.out, hm1, by rw [HL.out]; exact hfl⟩)⟩

/-- **bounds**, at whatever slice of bytes. -/
theorem bounds_any (a : Option Addr) (len cap : Nat) (p : Int) (L : List Int) (w : World) (hl : L.length = len) (h : RowIn .u8 w a cap L) (hn : a = none → len = 0 ∧ cap = 0) :
    Calls Try.prog 26 #[.slice a len cap, .int .i64 p] w (BoundsIs L p w) := by
  by_cases hp : p < 0 ∨ (len : Int) < p
  · exact bounds_out a len cap p L w hl hp
  · obtain ⟨q, rfl⟩ : ∃ q : Nat, p = q := ⟨p.toNat, by omega⟩
    by_cases hq : q = len
    · subst hq
      exact bounds_end a q cap L w hl h hn
    · obtain ⟨b, off, rfl, _⟩ := row_at h (i := q) (by omega)
      exact bounds_in b off len cap q L w hl h (by omega)
end Go.Proofs.Ytnpgjndhkmpciaa
