/-
  Walks of moorings/rec.isLast, isCutOff and bounds, with the searches of package slices that they use, at every slice of bytes.
-/
import Derived.Test.YtnpgjndhkmpciaaRMath
import Derived.Test.YtnpgjndhkmpciaaVGet
import Derived.Test.YtnpgjndhkmpciaaBlok
namespace Go.Proofs.Ytnpgjndhkmpciaa
open Go.RowKit

theorem row_any {k : IntKind} (w : World) (a : Option Addr) {cap : Nat} (h : cap ≤ maxLen) : RowIn k w a cap [] := ⟨⟨by simp, h⟩, by simp, .inl rfl⟩
theorem row_drop {k : IntKind} {w : World} {b off cap q : Nat} {L : List Int} (h : RowIn k w (some ⟨b, off, none⟩) cap L) (hq : q ≤ L.length) : RowIn k w (some ⟨b, off + q, none⟩) (cap - q) (L.drop q) := by
  refine ⟨⟨by have := h.1.1; simp; omega, by have := h.1.2; omega⟩, fun n hn => h.2.1 n (List.mem_of_mem_drop hn), ?_⟩
  rcases h.2.2 with rfl | ⟨b', off', hx, hb, hc⟩
  · exact .inl (by simp)
  · cases hx
    refine .inr ⟨_, _, rfl, hb, fun i hi => ?_⟩
    simp at hi
    have := hc (q + i) (by omega)
    rw [show off + q + i = off + (q + i) by omega, this]
    simp [show q + i < L.length by omega]

theorem isLast_any (c : Int) (b : Bool) (w : World) (h : decide (c < 128) = b) : Calls Try.prog 44 #[.int .u8 c] w fun e w' => e = .returned (.bool b) ∧ w = w' := by
  go_enter Try.func44, Try.ntmps44
  go_wp2
  go_ret
  exact ⟨rfl, rfl⟩

/-- Is no byte a number's last one? -/
def R.on (L : List Int) : Prop := ∀ c ∈ L, 128 ≤ c
instance (L : List Int) : Decidable (R.on L) := inferInstanceAs (Decidable (∀ c ∈ L, 128 ≤ c))
theorem R.on_step {L : List Int} {k : Nat} {x : Int} (h : R.on (L.take k)) (hk : k < L.length) (hx : L.getD k 0 = x) (hd : decide (x < 128) = false) : R.on (L.take (k + 1)) := by
  rw [take_snoc hk, hx]
  intro d hd'
  rcases List.mem_append.1 hd' with h1 | h1
  · exact h d h1
  · simp only [List.mem_singleton] at h1; subst h1
    have := of_decide_eq_false hd
    omega
theorem R.on_bad {L : List Int} {k : Nat} {x : Int} (hk : k < L.length) (hx : L.getD k 0 = x) (hd : decide (x < 128) = true) : ¬ R.on L := by
  intro h
  have hm : x ∈ L := by rw [← hx]; simp [hk]
  have := h x hm
  have := of_decide_eq_true hd
  omega

theorem index8_any (a : Option Addr) (len cap : Nat) (L : List Int) (w : World) (hl : L.length = len) (h : RowIn .u8 w a cap L) :
    Calls Try.prog 46 #[.slice a len cap, .func (.func 44) #[] #[]] w fun e w' => ∃ r : Int, e = .returned (.int .i64 r) ∧ decide (0 ≤ r) = !decide (R.on L) ∧ w = w' := by
  have HL := Lib.hid hl
  have HR := Lib.hid h
  have hlm : len ≤ 9223372036854775807 := by have := h.1; unfold maxLen at this; omega
  clear hl h
  go_enter Try.func46, Try.ntmps46
  go_wp2
  go_loop [8] (fun i => ∃ k : Nat, i = .int .i64 k ∧ k ≤ len ∧ Hid (R.on (L.take k))) (fun i => len - (intOf i).toNat)
  case atStart => exact ⟨0, rfl, by omega, Lib.hid (by simp [R.on])⟩
  case round =>
    obtain ⟨k, rfl, hkn, HT⟩ := hrel
    by_cases hlt : k < len
    · obtain ⟨b, off, rfl, hb, hc⟩ := row_at HR.out (by rw [HL.out]; exact hlt)
      obtain ⟨x, hx⟩ : ∃ x, L.getD k 0 = x := ⟨_, rfl⟩
      rw [hx] at hc
      have HX := Lib.hid hx
      obtain ⟨d, hd⟩ : ∃ d, decide (x < 128) = d := ⟨_, rfl⟩
      have HD := Lib.hid hd
      clear hx hd
      go_wp2_with (go_at_call 44; refine (isLast_any x d _ HD.out).mono ?_; rintro e w' ⟨rfl, rfl⟩)
      · obtain rfl : d = true := by assumption
        go_ret
        have hb := R.on_bad (by rw [HL.out]; exact hlt) HX.out HD.out
        exact ⟨k, rfl, by rw [decide_eq_false hb]; simp, rfl⟩
      · obtain rfl : d = false := by assumption
        go_round
        case rel => exact ⟨k + 1, by go_num, by omega, Lib.hid (R.on_step HT.out (by rw [HL.out]; exact hlt) HX.out HD.out)⟩
        case measure => simp [intOf]; omega
    · have hd : decide (k < len) = false := by simp; omega
      go_wp2
      go_ret
      have ht := HT.out
      rw [List.take_of_length_le (by rw [HL.out]; omega)] at ht
      exact ⟨-1, rfl, by rw [decide_eq_true ht]; rfl, rfl⟩

theorem contains8_any (a : Option Addr) (len cap : Nat) (L : List Int) (b : Bool) (w : World) (hl : L.length = len) (h : RowIn .u8 w a cap L) (hd : decide (R.on L) = b) :
    Calls Try.prog 43 #[.slice a len cap, .func (.func 44) #[] #[]] w fun e w' => e = .returned (.bool (!b)) ∧ w = w' := by
  have HL := Lib.hid hl
  have HR := Lib.hid h
  have HD := Lib.hid hd
  clear hl h hd
  go_enter Try.func43, Try.ntmps43
  go_wp2_with (go_at_call 46; refine (index8_any a len cap L _ HL.out HR.out).mono ?_; rintro e w' ⟨r, rfl, hr, rfl⟩; rw [HD.out] at hr; have HQ := Lib.hid hr; clear hr)
  go_ret
  exact ⟨by rw [← HQ.out]; rfl, rfl⟩

theorem isCut_any (a : Option Addr) (len cap : Nat) (L : List Int) (b : Bool) (w : World) (hl : L.length = len) (h : RowIn .u8 w a cap L) (hd : decide (R.cut L) = b) :
    Calls Try.prog 38 #[.slice a len cap] w fun e w' => e = .returned (.bool b) ∧ w = w' := by
  by_cases h0 : len = 0
  · have HB : Hid (b = true) := Lib.hid (by rw [← hd]; exact decide_eq_true (.inl (List.eq_nil_of_length_eq_zero (by omega))))
    have e0 : ((len : Int) == 0) = true := by simp; omega
    clear hl hd
    go_enter Try.func38, Try.ntmps38
    go_wp2
    go_ret
    exact ⟨by rw [HB.out]; rfl, rfl⟩
  · obtain ⟨m, hm⟩ : ∃ m, len = m + 1 := ⟨len - 1, by omega⟩
    obtain ⟨c, hc⟩ : ∃ c, decide (R.on L.tail) = c := ⟨_, rfl⟩
    obtain ⟨bb, off, rfl, hbb, _⟩ := row_at h (i := 0) (by omega)
    have hcap : len ≤ cap ∧ cap ≤ maxLen := by have := h.1; omega
    have hml : maxLen ≤ 9223372036854775807 := by decide
    have e0 : ((len : Int) == 0) = false := by simp; omega
    have e1 : (len : Int) - 1 = (m : Int) := by omega
    have e2 : len - 1 = m := by omega
    have e3 : ¬ ((len : Int) < 1) := by omega
    have e4 : 1 ≤ len := by omega
    have LT : Hid (L.tail.length = m) := Lib.hid (by simp; omega)
    have RT : Hid (RowIn .u8 w (some ⟨bb, off + 1, none⟩) (cap - 1) L.tail) := Lib.hid (by have := row_drop h (q := 1) (by omega); rwa [List.drop_one] at this)
    have RZ : Hid (∀ a' cap', cap' ≤ maxLen → m = 0 → RowIn .u8 w a' cap' L.tail) := Lib.hid (fun a' cap' h1 h2 => by rw [List.eq_nil_of_length_eq_zero (l := L.tail) (by simp; omega)]; exact row_any w a' h1)
    have HC := Lib.hid hc
    have HN : L ≠ [] := by intro hn; rw [hn] at hl; simp at hl; omega
    have HB : Hid (b = (decide (m < 6) && c)) := Lib.hid (by
      rw [← hd, ← hc]
      have : R.cut L ↔ (m < 6 ∧ R.on L.tail) := by
        unfold R.cut R.on
        rw [show L.tail.length = m by simp; omega]
        simp [HN]
      rw [Bool.eq_iff_iff]; simp [this])
    clear hl h hd hc HN
    by_cases h6 : m < 6
    · have d6 : decide ((m : Int) < 6) = true := by simp; omega
      have HB2 : Hid (b = c) := Lib.hid (by rw [HB.out]; simp [h6])
      by_cases hcl : cap = 1
      · have hm0 : m = 0 := by omega
        subst hcl
        subst hm0
        go_enter Try.func38, Try.ntmps38
        go_wp2_with fail
        refine (contains8_any _ 0 0 L.tail c _ LT.out (RZ.out _ 0 (by simp [maxLen]) trivial) HC.out).mono ?_
        rintro e w' ⟨rfl, rfl⟩
        go_wp2
        go_ret
        exact ⟨by rw [HB2.out]; simp <;> rfl, rfl⟩
      · go_enter Try.func38, Try.ntmps38
        go_wp2_with fail
        refine (contains8_any _ m _ L.tail c _ LT.out RT.out HC.out).mono ?_
        rintro e w' ⟨rfl, rfl⟩
        go_wp2
        go_ret
        exact ⟨by rw [HB2.out]; simp <;> rfl, rfl⟩
    · have d6 : decide ((m : Int) < 6) = false := by simp; omega
      have d7 : decide (m < 6) = false := by simp; omega
      have HB2 : Hid (b = false) := Lib.hid (by rw [HB.out]; simp [h6])
      have hcl : ¬ cap = 1 := by omega
      go_enter Try.func38, Try.ntmps38
      go_wp2
      go_ret
      exact ⟨by rw [HB2.out]; rfl, rfl⟩
end Go.Proofs.Ytnpgjndhkmpciaa
