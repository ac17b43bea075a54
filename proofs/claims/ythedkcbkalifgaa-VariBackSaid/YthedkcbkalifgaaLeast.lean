/-
  Walk of moorings/mooringslaw01.VariLeast: for every input it returns true.
-/
import Derived.Test.YthedkcbkalifgaaStr
namespace Go.Proofs.Ythedkcbkalifgaa
open Go.RowKit

theorem head_take {n : Int} {k : Nat} (h : M.isn n) (hk : k < (M.put n).length) : M.head ((M.put n).take k) = none := by
  cases hh : M.head ((M.put n).take k) with
  | none => rfl
  | some r =>
    obtain ⟨m, e⟩ := r
    obtain ⟨hm, ht, he, hle, _⟩ := head_sound (fun c hc => byte_of (put_wf n) c (List.mem_of_mem_take hc)) hh
    have e1 : M.put n = M.put m ++ (M.put n).drop e := by
      have : (M.put n).take e = M.put m := by
        rw [← ht, List.take_take]
        congr 1
        simp at hle; omega
      rw [← this, List.take_append_drop]
    have h1 := head_put h []
    have h2 := head_put hm ((M.put n).drop e)
    rw [List.append_nil] at h1
    rw [← e1, h1] at h2
    simp at h2
    simp at hle
    omega

/-- Put's slice, when there are bytes. -/
theorem putNum_any (n : Int) (lp : Nat) (w : World) (h : M.isn n) (hl : (M.put n).length = lp) : Calls Try.prog 17 #[.int .i64 n] w fun e w' => ∃ g cap, e = .returned (.slice (some ⟨g, 0, none⟩) lp cap) ∧ Hid (w'.ownsRow w.heap.size 5 1 (.slice (some ⟨g, 0, none⟩) lp cap) lp ((M.put n).map (Value.int .u8))) ∧ lp ≤ cap ∧ Below w.heap.size w w' :=
  (put_any n w).mono fun e w' ⟨v, he, ho, hb⟩ => by
    obtain ⟨g, cap, rfl⟩ := ownsRow_some ho (put_pos h)
    rw [hl] at ho he
    exact ⟨g, cap, he, ho, by have := (row3_of ho (put_wf n)).1.1; omega, hb⟩
/-- Put's slice, when there are none. -/
theorem putNo_any (n : Int) (w : World) (h : ¬ M.isn n) : Calls Try.prog 17 #[.int .i64 n] w fun e w' => ∃ a cap, e = .returned (.slice a 0 cap) ∧ Below w.heap.size w w' :=
  (put_any n w).mono fun e w' ⟨v, he, ho, hb⟩ => by
    rw [M.put_no h] at ho
    obtain ⟨a, cap, rfl⟩ := ownsRow_form ho
    exact ⟨a, cap, he, hb⟩

theorem put_eq_iff {n m : Int} (hn : M.isn n) (hm : M.isn m) : decide (M.put n = M.put m) = (n == m) := by
  rw [Bool.eq_iff_iff, beq_iff_eq, decide_eq_true_iff]
  constructor
  · intro h
    have h1 := head_put hn []
    rw [h, head_put hm] at h1
    simp at h1
    exact h1.symm
  · rintro rfl; rfl

theorem put_mono {n m : Int} (hn : M.isn n) (hm : M.isn m) (h : n ≤ m) : (M.put n).length ≤ (M.put m).length := by
  rw [M.put_yes hn.1 hn.2, M.put_yes hm.1 hm.2]
  have h1 := hn.1; have h2 := hm.1
  exact M.puts_mono _ _ _ (Nat.le_refl _) (by omega)

theorem row_take {k : IntKind} {w : World} {a : Option Addr} {cap : Nat} {L : List Int} (h : RowIn k w a cap L) (j : Nat) : RowIn k w a cap (L.take j) := by
  refine ⟨⟨?_, h.1.2⟩, fun n hn => h.2.1 n (List.mem_of_mem_take hn), ?_⟩
  · have := h.1.1; simp; omega
  · rcases h.2.2 with rfl | ⟨b, off, rfl, hb, hc⟩
    · exact .inl (by simp)
    · refine .inr ⟨b, off, rfl, hb, fun i hi => ?_⟩
      simp at hi
      rw [hc i (by omega)]
      simp [show i < L.length by omega, show i < j by omega]

set_option maxRecDepth 100000 in
set_option maxHeartbeats 2000000 in
theorem least_any (n m k : Int) (w : World) : Calls Try.prog 6 #[.int .i64 n, .int .i64 m, .int .i64 k] w fun e w' => e = .returned (.bool true) ∧ Below w.heap.size w w' := by
  by_cases hn : M.isn n
  · by_cases hm : M.isn m
    · have HN := Lib.hid hn
      have HM := Lib.hid hm
      obtain ⟨lp, hlp⟩ : ∃ l, (M.put n).length = l := ⟨_, rfl⟩
      obtain ⟨lq, hlq⟩ : ∃ l, (M.put m).length = l := ⟨_, rfl⟩
      have p0 := put_pos hn
      have q0 := put_pos hm
      have p6 := M.put_len6 n
      have q6 := M.put_len6 m
      have hmono := Lib.hid (put_mono hn hm)
      rw [hlp] at p0 p6
      rw [hlq] at q0 q6
      have hp00 : ((lp : Int) == 0) = false := by simp; omega
      have hq00 : ((lq : Int) == 0) = false := by simp; omega
      obtain ⟨b, hnm⟩ : ∃ b, (n == m) = b := ⟨_, rfl⟩
      have HB := Lib.hid (put_eq_iff hn hm)
      have HLP := Lib.hid hlp
      have HLQ := Lib.hid hlq
      obtain ⟨s, hs⟩ : ∃ s, strOf (M.put n) = s := ⟨_, rfl⟩
      obtain ⟨t, ht⟩ : ∃ t, strOf (M.put m) = t := ⟨_, rfl⟩
      have hst : (s.toList == t.toList) = b := by rw [← hs, ← ht, str_beq (put_wf n) (put_wf m), HB.out, hnm]
      have HS := Lib.hid hs
      have HT := Lib.hid ht
      clear hn hm hlp hlq hs ht
      have hcmp : (n ≤ m ∧ lp ≤ lq) ∨ m < n := by
        by_cases h : n ≤ m
        · exact .inl ⟨h, by have := hmono.out h; rw [HLP.out, HLQ.out] at this; exact this⟩
        · exact .inr (by omega)
      have hk : k < 0 ∨ (∃ j : Nat, k = j ∧ j < lp) ∨ (0 ≤ k ∧ (lp : Int) ≤ k) := by
        by_cases h0 : k < 0
        · exact .inl h0
        · by_cases h1 : (lp : Int) ≤ k
          · exact .inr (.inr ⟨by omega, h1⟩)
          · exact .inr (.inl ⟨k.toNat, by omega, by omega⟩)
      clear hmono
      go_enter Try.func6, Try.ntmps6
      go_wp2_with fail
      refine (awake_any _).mono ?_
      rintro e w1 ⟨rfl, hb1⟩
      go_wp2_with fail
      refine (putNum_any n lp _ HN.out HLP.out).mono ?_
      rintro e w2 ⟨g2, cap2, rfl, R2, hc2, hb2⟩
      go_wp2_with fail
      refine (putNum_any m lq _ HM.out HLQ.out).mono ?_
      rintro e w3 ⟨g3, cap3, rfl, R3, hc3, hb3⟩
      have R2' : Hid _ := Lib.hid (row3_of (ownsRow_below R2.out hb3) (put_wf n))
      have hb : Hid (Below w.heap.size w w3) := Lib.hid ((hb1.trans (hb2.mono hb1.size)).trans (hb3.mono (Nat.le_trans hb1.size hb2.size)))
      have hcp := conv_row (n := lp) R2'.out HLP.out
      have hcq := conv_row (n := lq) (row3_of R3.out (put_wf m)) HLQ.out
      rw [HS.out] at hcp
      rw [HT.out] at hcq
      clear hb1 hb2 hb3 R2
      rcases hcmp with ⟨h1, h2⟩ | h1
      all_goals
        rcases hk with h3 | ⟨j, rfl, h4⟩ | ⟨h3, h4⟩
        · go_wp2
          go_ret
          exact ⟨rfl, hb.out⟩
        · have HG := Lib.hid (get_none (L := (M.put n).take j) (q := 0) (head_take HN.out (by rw [HLP.out]; exact h4)))
          have HLT : Hid (((M.put n).take j).length = j) := Lib.hid (by have := HLP.out; simp; omega)
          go_wp2_with (go_at_call 10; refine (getIs_of HG.out (get_any (some ⟨g2, 0, none⟩) j cap2 _ _ _ HLT.out (row_take R2'.out j))).mono ?_; rintro e w' ⟨rfl, rfl⟩)
          go_ret
          exact ⟨rfl, hb.out⟩
        · go_wp2
          go_ret
          exact ⟨rfl, hb.out⟩
    · have HN := Lib.hid hn
      have HM := Lib.hid hm
      clear hn hm
      obtain ⟨lp, hlp⟩ : ∃ l, (M.put n).length = l := ⟨_, rfl⟩
      have p0 := put_pos HN.out
      rw [hlp] at p0
      have hp00 : ((lp : Int) == 0) = false := by simp; omega
      have HLP := Lib.hid hlp
      clear hlp
      go_enter Try.func6, Try.ntmps6
      go_wp2_with fail
      refine (awake_any _).mono ?_
      rintro e w1 ⟨rfl, hb1⟩
      go_wp2_with fail
      refine (putNum_any n lp _ HN.out HLP.out).mono ?_
      rintro e w2 ⟨g2, cap2, rfl, R2, hc2, hb2⟩
      go_wp2_with fail
      refine (putNo_any m _ HM.out).mono ?_
      rintro e w3 ⟨a3, cap3, rfl, hb3⟩
      have hb : Hid (Below w.heap.size w w3) := Lib.hid ((hb1.trans (hb2.mono hb1.size)).trans (hb3.mono (Nat.le_trans hb1.size hb2.size)))
      go_wp2
      go_ret
      exact ⟨rfl, hb.out⟩
  · have HN := Lib.hid hn
    clear hn
    go_enter Try.func6, Try.ntmps6
    go_wp2_with fail
    refine (awake_any _).mono ?_
    rintro e w1 ⟨rfl, hb1⟩
    go_wp2_with fail
    refine (putNo_any n _ HN.out).mono ?_
    rintro e w2 ⟨a2, cap2, rfl, hb2⟩
    go_wp2_with fail
    refine (put_any m _).mono ?_
    rintro e w3 ⟨v3, rfl, ho3, hb3⟩
    obtain ⟨a3, cap3, rfl⟩ := ownsRow_form ho3
    have hb : Hid (Below w.heap.size w w3) := Lib.hid ((hb1.trans (hb2.mono hb1.size)).trans (hb3.mono (Nat.le_trans hb1.size hb2.size)))
    go_wp2
    go_ret
    exact ⟨rfl, hb.out⟩
end Go.Proofs.Ythedkcbkalifgaa
