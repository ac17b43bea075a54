/-
  Walks of moorings/mooringslaw01.VariCount and VariApart: for every input they return true.
-/
import Derived.Test.YthedkcbkalifgaaLeast
namespace Go.Proofs.Ythedkcbkalifgaa
open Go.RowKit

theorem put_len1 {n : Int} (h0 : 0 ≤ n) (h1 : n < 128) : (M.put n).length = 1 := by
  rw [M.put_yes h0 (by omega), M.puts_lt (by omega)]; rfl
theorem put_len2 {n : Int} (h0 : 128 ≤ n) (h1 : n < 16384) : (M.put n).length = 2 := by
  rw [M.put_yes (by omega) (by omega), M.puts_ge (by omega), M.puts_lt (by omega)]; rfl
theorem put_max : (M.put 1099511627776).length = 6 := by
  rw [M.put_yes (by decide) (by decide), show (1099511627776 : Int).toNat = 1099511627776 from rfl, M.puts_ge (by decide), M.puts_ge (by decide), M.puts_ge (by decide), M.puts_ge (by decide), M.puts_ge (by decide), M.puts_lt (by decide)]; rfl

/-- How long Put's slice is. -/
theorem putLen_any (n : Int) (lp : Nat) (w : World) (hl : (M.put n).length = lp) : Calls Try.prog 17 #[.int .i64 n] w fun e w' => ∃ a cap, e = .returned (.slice a lp cap) ∧ Below w.heap.size w w' :=
  (put_any n w).mono fun e w' ⟨v, he, ho, hb⟩ => by
    obtain ⟨a, cap, rfl⟩ := ownsRow_form ho
    rw [hl] at he
    exact ⟨a, cap, he, hb⟩

theorem flat_ge {l : List Int} (h : ∀ n ∈ l, M.isn n) : l.length ≤ (l.flatMap M.put).length := by
  induction l with
  | nil => simp
  | cons n l ih =>
    have := ih (fun x hx => h x (by simp [hx]))
    have := put_pos (h n (by simp))
    rw [List.flatMap_cons, List.length_append, List.length_cons]; omega

/-- How many numbers Read tells. -/
theorem readLen_any (a : Option Addr) (len cap : Nat) (L : List Int) (w : World) (hl : L.length = len) (h : RowIn .u8 w a cap L) : Calls Try.prog 14 #[.slice a len cap] w fun e w' => ∃ a ll cap ok, e = .returned (.tuple #[.slice a ll cap, .bool ok]) ∧ ll ≤ len ∧ (ok = false ∨ len = 0 ∨ 0 < ll) ∧ Below w.heap.size w w' :=
  (read_any a len cap L w hl h).mono fun e w' ⟨v, ok, he, hok, ho, hb⟩ => by
    obtain ⟨a', cap', rfl⟩ := ownsRow_form ho
    refine ⟨a', _, cap', ok, he, ?_, ?_, hb⟩
    · cases hr : M.read L with
      | none => simp
      | some l =>
        obtain ⟨_, h2, h3⟩ := all_some.1 (read_some.1 hr)
        have := flat_ge h2
        rw [← h3] at this
        simp; omega
    · cases hr : M.read L with
      | none => rw [hr] at hok; exact .inl (by simpa using hok)
      | some l =>
        obtain ⟨_, h2, h3⟩ := all_some.1 (read_some.1 hr)
        cases l with
        | nil => simp at h3; subst h3; exact .inr (.inl (by simpa using hl.symm))
        | cons n l => exact .inr (.inr (by simp))

set_option maxRecDepth 100000 in
set_option maxHeartbeats 2000000 in
theorem count_any (n : Int) (a : Option Addr) (len cap : Nat) (L : List Int) (w : World) (hl : L.length = len) (h : RowIn .u8 w a cap L) : Calls Try.prog 7 #[.int .i64 n, .slice a len cap] w fun e w' => e = .returned (.bool true) ∧ Below w.heap.size w w' := by
  have HL := Lib.hid hl
  have HR := Lib.hid h
  clear hl h
  by_cases h5 : 500 < len
  · have h5' : decide (500 < (len : Int)) = true := by simp; omega
    go_enter Try.func7, Try.ntmps7
    go_wp2_with fail
    refine (awake_any _).mono ?_
    rintro e w1 ⟨rfl, hb1⟩
    have hb : Hid (Below w.heap.size w w1) := Lib.hid hb1
    clear hb1
    go_wp2
    go_ret
    exact ⟨rfl, hb.out⟩
  · have h5' : decide (500 < (len : Int)) = false := by simp; omega
    obtain ⟨lp, hlp⟩ : ∃ l, (M.put n).length = l := ⟨_, rfl⟩
    have hcase : (0 ≤ n ∧ n < 128 ∧ lp = 1) ∨ (128 ≤ n ∧ n < 16384 ∧ lp = 2) ∨ (n < 0) ∨ (16384 ≤ n) := by
      by_cases c1 : n < 0
      · exact .inr (.inr (.inl c1))
      · by_cases c2 : n < 128
        · exact .inl ⟨by omega, c2, by rw [← hlp, put_len1 (by omega) c2]⟩
        · by_cases c3 : n < 16384
          · exact .inr (.inl ⟨by omega, c3, by rw [← hlp, put_len2 (by omega) c3]⟩)
          · exact .inr (.inr (.inr (by omega)))
    have HLP := Lib.hid hlp
    clear hlp
    go_enter Try.func7, Try.ntmps7
    go_wp2_with fail
    refine (awake_any _).mono ?_
    rintro e w1 ⟨rfl, hb1⟩
    go_wp2_with fail
    refine (putLen_any n lp _ HLP.out).mono ?_
    rintro e w2 ⟨a2, cap2, rfl, hb2⟩
    have hb : Hid (Below w.heap.size w w2) := Lib.hid (hb1.trans (hb2.mono hb1.size))
    clear hb1 hb2
    rcases hcase with ⟨c1, c2, rfl⟩ | ⟨c1, c2, rfl⟩ | c1 | c1
    all_goals
      go_wp2_with (first | (go_at_call 17; refine (putLen_any 1099511627776 6 _ put_max).mono ?_; rintro e w3 ⟨a3, cap3, rfl, hb3⟩) | (go_at_call 14; refine (readLen_any _ len _ L _ HL.out (HR.out.below (hb.out.trans (hb3.mono hb.out.size)))).mono ?_; rintro e w4 ⟨a4, ll, cap4, ok, rfl, g1, g2, hb4⟩))
      all_goals
        go_ret
        refine ⟨?_, (hb.out.trans (hb3.mono hb.out.size)).trans (hb4.mono (Nat.le_trans hb.out.size hb3.size))⟩
        first
          | rfl
          | (rcases g2 with g2 | g2 | g2 <;> simp_all)

/-- What All tells, as a slice. -/
theorem allRow_any (a : Option Addr) (len cap : Nat) (L : List Int) (w : World) (hl : L.length = len) (h : RowIn .i64 w a cap L) : Calls Try.prog 12 #[.slice a len cap] w fun e w' =>
    ∃ a' cap' n', e = .returned (.tuple #[.slice a' n' cap', .bool (M.all L).isSome]) ∧ Hid (((M.all L).getD []).length = n') ∧ Hid (RowIn .u8 w' a' cap' ((M.all L).getD [])) ∧ Below w.heap.size w w' :=
  (all_any a len cap L w hl h).mono fun e w' ⟨v, ok, he, hok, ho, hb⟩ => by
    obtain ⟨a', cap', rfl, _, hr⟩ := ownsRow_rowIn ho (by
      cases hr : M.all L with
      | none => simp
      | some b => simpa using all_byte hr)
    exact ⟨a', cap', _, by rw [he, hok], rfl, hr, hb⟩

theorem all_wf (L : List Int) : ∀ c ∈ (M.all L).getD [], (Lit.int .u8 c).wf = true := by
  cases hr : M.all L with
  | none => simp
  | some b => simpa using all_byte hr

set_option maxRecDepth 100000 in
set_option maxHeartbeats 2000000 in
theorem apart_any (a a' : Option Addr) (len len' cap cap' : Nat) (L K : List Int) (w : World) (hl : L.length = len) (hk : K.length = len') (h : RowIn .i64 w a cap L) (h' : RowIn .i64 w a' cap' K) :
    Calls Try.prog 8 #[.slice a len cap, .slice a' len' cap'] w fun e w' => e = .returned (.bool true) ∧ Below w.heap.size w w' := by
  have HL := Lib.hid hl
  have HK := Lib.hid hk
  have HR := Lib.hid h
  have HR' := Lib.hid h'
  clear hl hk h h'
  by_cases h4 : 400 < len
  · have h4' : decide (400 < (len : Int)) = true := by simp; omega
    go_enter Try.func8, Try.ntmps8
    go_wp2_with fail
    refine (awake_any _).mono ?_
    rintro e w1 ⟨rfl, hb1⟩
    have hb : Hid (Below w.heap.size w w1) := Lib.hid hb1
    clear hb1
    go_wp2
    go_ret
    exact ⟨rfl, hb.out⟩
  · have h4' : decide (400 < (len : Int)) = false := by simp; omega
    by_cases h5 : 400 < len'
    · have h5' : decide (400 < (len' : Int)) = true := by simp; omega
      go_enter Try.func8, Try.ntmps8
      go_wp2_with fail
      refine (awake_any _).mono ?_
      rintro e w1 ⟨rfl, hb1⟩
      have hb : Hid (Below w.heap.size w w1) := Lib.hid hb1
      clear hb1
      go_wp2
      go_ret
      exact ⟨rfl, hb.out⟩
    · have h5' : decide (400 < (len' : Int)) = false := by simp; omega
      obtain ⟨ok, hok⟩ : ∃ b, (M.all L).isSome = b := ⟨_, rfl⟩
      obtain ⟨ok', hok'⟩ : ∃ b, (M.all K).isSome = b := ⟨_, rfl⟩
      obtain ⟨s, hs⟩ : ∃ s, strOf ((M.all L).getD []) = s := ⟨_, rfl⟩
      obtain ⟨t, ht⟩ : ∃ t, strOf ((M.all K).getD []) = t := ⟨_, rfl⟩
      obtain ⟨b, hLK⟩ : ∃ b, decide (L = K) = b := ⟨_, rfl⟩
      have hst : ok = true → ok' = true → (s.toList == t.toList) = b := by
        intro e1 e2
        rw [← hs, ← ht, str_beq (all_wf L) (all_wf K), ← hLK]
        rw [← hok] at e1
        rw [← hok'] at e2
        obtain ⟨x, hx⟩ := Option.isSome_iff_exists.1 e1
        obtain ⟨y, hy⟩ := Option.isSome_iff_exists.1 e2
        rw [hx, hy, Bool.eq_iff_iff, decide_eq_true_iff, decide_eq_true_iff]
        constructor
        · intro e3
          simp at e3
          subst e3
          exact all_inj hx hy
        · rintro rfl
          rw [hx] at hy
          cases hy; rfl
      have HST := Lib.hid hst
      have HOK := Lib.hid hok
      have HOK' := Lib.hid hok'
      have HS := Lib.hid hs
      have HT := Lib.hid ht
      have HB := Lib.hid hLK
      clear hst hok hok' hs ht hLK
      go_enter Try.func8, Try.ntmps8
      go_wp2_with fail
      refine (awake_any _).mono ?_
      rintro e w1 ⟨rfl, hb1⟩
      go_wp2_with fail
      refine (allRow_any _ len _ L _ HL.out (HR.out.below hb1)).mono ?_
      rintro e w2 ⟨a2, cap2, n2, rfl, l2, r2, hb2⟩
      rw [HOK.out]
      have hb12 := hb1.trans (hb2.mono hb1.size)
      go_wp2_with fail
      refine (allRow_any _ len' _ K _ HK.out (HR'.out.below hb12)).mono ?_
      rintro e w3 ⟨a3, cap3, n3, rfl, l3, r3, hb3⟩
      rw [HOK'.out]
      have hb13 := hb12.trans (hb3.mono hb12.size)
      go_wp2_with fail
      refine (ints_any _ _ len len' _ _ L K _ HL.out HK.out (HR.out.below hb13) (HR'.out.below hb13)).mono ?_
      rintro e w4 ⟨rfl, hb4⟩
      rw [HB.out]
      have hb : Hid (Below w.heap.size w w4) := Lib.hid (hb13.trans (hb4.mono hb13.size))
      have hcs := conv_row ((r2.out.below hb3).below hb4) l2.out
      have hct := conv_row (r3.out.below hb4) l3.out
      rw [HS.out] at hcs
      rw [HT.out] at hct
      clear hb1 hb2 hb3 hb4 hb12 hb13
      cases ok with
      | false =>
        go_wp2
        go_ret
        exact ⟨rfl, hb.out⟩
      | true =>
        cases ok' with
        | false =>
          go_wp2
          go_ret
          exact ⟨rfl, hb.out⟩
        | true =>
          have hst := HST.out rfl rfl
          go_wp2
          go_ret
          exact ⟨by simp, hb.out⟩
end Go.Proofs.Ythedkcbkalifgaa
