/-
  Walk of moorings/mooringslaw06.DiskFiles: for every input it returns true.
-/
import Derived.Test.YtcabhibbajkpkaaDLawBase
namespace Go.Proofs.Ytcabhibbajkpkaa
open Go.RowKit

set_option maxRecDepth 100000 in
set_option maxHeartbeats 2000000 in
theorem files_in (k : Int) (a : Option Addr) (n c : Nat) (no other : Int) (xs : List FP) (w : World) (hd : DiskIn w a n c xs) :
    Calls Try.prog 8 #[.agg #[.int .i64 k, .slice a n c], .int .i64 no, .int .i64 other] w fun e w' => e = .returned (.bool true) ∧ Below w.heap.size w w' := by
  have HBX : Hid (Below w.heap.size w (dbox w k a n c)) := Lib.hid (dbox_below w k a n c)
  have HD := Lib.hid hd
  by_cases hf : D.few (FP.files xs)
  · by_cases hm : D.may (k, FP.files xs)
    · have HF := Lib.hid (decide_eq_true hf)
      have HM := Lib.hid (decide_eq_true hm)
      have HSM := Lib.hid hf.small
      have hM0 := D.make_of (k, FP.files xs) no
      have hD0 := D.drop_of (no := no) hm
      have hmm : D.may (D.make (k, FP.files xs) no).1 := by have h := (D.op_may 0 no 0 [] [] (k, FP.files xs)).2 hm; simpa [D.op] using h
      have hmd : D.may (D.drop (k, FP.files xs) no).1 := by have h := (D.op_may 4 no 0 [] [] (k, FP.files xs)).2 hm; simpa [D.op] using h
      obtain ⟨⟨⟨q, la⟩, em⟩, hq⟩ : ∃ r, D.make (k, FP.files xs) no = r := ⟨_, rfl⟩
      obtain ⟨⟨⟨r, lb⟩, ed⟩, hr⟩ : ∃ r, D.drop (k, FP.files xs) no = r := ⟨_, rfl⟩
      have hqk : q = k := by have h1 := D.make_cap (k, FP.files xs) no; rw [hq] at h1; exact h1
      have hrk : r = k := by have h1 := D.drop_cap (k, FP.files xs) no; rw [hr] at h1; exact h1
      subst hqk
      subst hrk
      rw [hq] at hM0 hmm
      rw [hr] at hD0 hmd
      simp only at hM0 hD0 hmm hmd
      have HQ := Lib.hid hq
      have HR := Lib.hid hr
      obtain ⟨wb, hwb⟩ : ∃ b, (D.idx (FP.files xs) other).isSome = b := ⟨_, rfl⟩
      obtain ⟨fo, hfo⟩ : ∃ f, D.find (r, FP.files xs) other = f := ⟨_, rfl⟩
      obtain ⟨fn, hfn⟩ : ∃ f, D.find (r, FP.files xs) no = f := ⟨_, rfl⟩
      obtain ⟨fa, hfa⟩ : ∃ f, D.find (r, la) no = f := ⟨_, rfl⟩
      obtain ⟨fb, hfb⟩ : ∃ f, D.find (r, lb) no = f := ⟨_, rfl⟩
      obtain ⟨ga, hga⟩ : ∃ f, D.find (r, la) other = f := ⟨_, rfl⟩
      obtain ⟨gb, hgb⟩ : ∃ f, D.find (r, lb) other = f := ⟨_, rfl⟩
      have dfo : decide (0 ≤ fo) = wb := by rw [← hfo, D.find_bool hm]; exact hwb
      have HEM : Hid ((em ≠ 0 ∧ la = FP.files xs) ∨ (em = 0 ∧ la.length = xs.length + 1 ∧ ∃ i : Nat, fa = i ∧ i < la.length ∧ la.getD i D.nof = (no, [], 0))) := Lib.hid (by
        rcases hM0 with ⟨h1, h2⟩ | ⟨h1, h2, h3, h4, _⟩
        · exact .inl ⟨h1, congrArg Prod.snd h2⟩
        · refine .inr ⟨h1, by rw [h2, FP.files_len], ?_⟩
          rcases D.find_of (no := no) hmm with ⟨i, h5, h6, h7, h8⟩ | ⟨h5, _⟩
          · refine ⟨i, by rw [← hfa]; exact h6, h7, ?_⟩
            simp only at h7 h8 ⊢
            rw [D.getD_lt h7] at h8 ⊢
            exact h3 _ (List.getElem_mem h7) h8
          · have h9 := (D.idx_isSome la no).2 h4
            simp only at h5
            rw [h5] at h9
            simp at h9)
      have HED : Hid ((ed ≠ 0 ∧ lb = FP.files xs ∧ fn = -1) ∨ (ed = 0 ∧ lb.length + 1 = xs.length ∧ 0 ≤ fn ∧ fb = -1)) := Lib.hid (by
        rcases hD0 with ⟨h1, h2, h3⟩ | ⟨h1, h2, h3, h4, _⟩
        · refine .inl ⟨h1, congrArg Prod.snd h2, ?_⟩
          rcases D.find_of (no := no) hm with ⟨i, h5, _⟩ | ⟨_, h6⟩
          · simp only at h5; rw [h3] at h5; simp at h5
          · rw [← hfn]; exact h6
        · refine .inr ⟨h1, by rw [h2, FP.files_len], ?_, ?_⟩
          · rcases D.find_of (no := no) hm with ⟨i, _, h6, _⟩ | ⟨h5, _⟩
            · rw [← hfn, h6]; omega
            · simp only at h5; rw [h5] at h3; simp at h3
          · rcases D.find_of (no := no) hmd with ⟨i, _, _, h7, h8⟩ | ⟨_, h6⟩
            · simp only at h7 h8
              rw [D.getD_lt h7] at h8
              exact absurd h8 (h4 _ (List.getElem_mem h7))
            · rw [← hfb]; exact h6)
      have HGA : Hid (other ≠ no → decide (0 ≤ ga) = wb) := Lib.hid (fun ho => by
        rw [← hga, D.find_bool hmm, ← hwb]
        rcases hM0 with ⟨_, h2⟩ | ⟨_, _, _, _, h5⟩
        · have : la = FP.files xs := congrArg Prod.snd h2
          rw [this]
        · exact D.some_eq (h5 other ho))
      have HGB : Hid (other ≠ no → decide (0 ≤ gb) = wb) := Lib.hid (fun ho => by
        rw [← hgb, D.find_bool hmd, ← hwb]
        rcases hD0 with ⟨_, h2, _⟩ | ⟨_, _, _, _, h5⟩
        · have : lb = FP.files xs := congrArg Prod.snd h2
          rw [this]
        · exact D.some_eq (h5 other ho))
      have HFO := Lib.hid hfo
      have HFN := Lib.hid hfn
      have HFA := Lib.hid hfa
      have HFB := Lib.hid hfb
      have HGA2 := Lib.hid hga
      have HGB2 := Lib.hid hgb
      have hcap := hd.caps
      have hml : maxLen ≤ 9223372036854775807 := by decide
      have h14 : n ≤ 14 := by have h1 := hf.1; rw [FP.files_len, hd.1] at h1; exact h1
      have HXN : Hid (xs.length = n) := Lib.hid hd.1
      clear hd hf hm hM0 hD0 hmm hmd hq hr hwb hfo hfn hfa hfb hga hgb
      rcases HEM.out with hem | hem
      · have eme : (em == 0) = false := by simpa using hem.1
        clear hem
        rcases HED.out with hde | hde
        · have ee : (ed == 0) = false := by simpa using hde.1
          obtain ⟨hd0, hlb, hfn⟩ := hde
          subst hfn
          have dfn : decide ((0 : Int) ≤ -1) = false := rfl
          clear hd0 hlb
          by_cases ho : other = no
          · have eo : (other == no) = true := by simpa using ho
            clear ho
            go_enter Try.func8, Try.ntmps8
            go_wp2_with fail
            refine (awake_any (dbox w r a n c)).mono ?_
            rintro e w1 ⟨rfl, hb1⟩
            have W1 := Lib.hid (HBX.out.trans (hb1.mono HBX.out.size))
            have Kd1 : Hid (Blok w1 (w.heap.size) 24 #[.int .i64 r, .slice a n c]) := Lib.hid ((dbox_blok w r a n c).on hb1)
            clear hb1
            have qd0 : (w1).cell? ⟨w.heap.size, 0, none⟩ = some (.int .i64 r) := dk0 Kd1.out
            have qd1 : (w1).cell? ⟨w.heap.size, 1, none⟩ = some (.slice a n c) := dk1 Kd1.out
            go_wp2_with fail
            refine (few_any r a n c xs true _ (HD.out.below W1.out) HF.out).mono ?_
            rintro e w2 ⟨rfl, hb2⟩
            clear qd0 qd1
            have W2 := Lib.hid (W1.out.trans (hb2.mono W1.out.size))
            have Kd2 := Lib.hid (Kd1.out.on hb2)
            clear hb2
            have qd0 : (w2).cell? ⟨w.heap.size, 0, none⟩ = some (.int .i64 r) := dk0 Kd2.out
            have qd1 : (w2).cell? ⟨w.heap.size, 1, none⟩ = some (.slice a n c) := dk1 Kd2.out
            go_wp2_with fail
            refine (may_any r a n c xs true _ (HD.out.below W2.out) HM.out).mono ?_
            rintro e w3 ⟨rfl, hb3⟩
            clear qd0 qd1
            have W3 := Lib.hid (W2.out.trans (hb3.mono W2.out.size))
            have Kd3 := Lib.hid (Kd2.out.on hb3)
            clear hb3
            have qd0 : (w3).cell? ⟨w.heap.size, 0, none⟩ = some (.int .i64 r) := dk0 Kd3.out
            have qd1 : (w3).cell? ⟨w.heap.size, 1, none⟩ = some (.slice a n c) := dk1 Kd3.out
            go_wp2_with fail
            refine (make_any r a n c no xs _ (HD.out.below W3.out) HSM.out).mono ?_
            rw [HQ.out]
            rintro e w4 ⟨a4, n4, c4, ya, rfl, HE4, HYA, _, hb4⟩
            clear qd0 qd1
            have hx4 := dbox_below w4 r a4 n4 c4
            have W4 := Lib.hid ((W3.out.trans (hb4.mono W3.out.size)).trans (hx4.mono (W3.out.trans (hb4.mono W3.out.size)).size))
            have Pd4 := Kd3.out.on hb4
            have Kd4 := Lib.hid (Pd4.on hx4)
            have HDx4 := Lib.hid (HE4.out.below hx4)
            have Kx4 := Lib.hid (dbox_blok w4 r a4 n4 c4)
            have qd0 : ∀ o, (w4.alloc o).cell? ⟨w.heap.size, 0, none⟩ = some (.int .i64 r) := fun o => dk0 (Pd4.alloc o)
            have qd1 : ∀ o, (w4.alloc o).cell? ⟨w.heap.size, 1, none⟩ = some (.slice a n c) := fun o => dk1 (Pd4.alloc o)
            clear hb4 hx4 Pd4
            go_wp2_with fail
            refine (drop_any r a n c no xs _ (HD.out.below W4.out) HSM.out).mono ?_
            rw [HR.out]
            rintro e w5 ⟨a5, n5, c5, yb, rfl, HE5, HYB, _, hb5⟩
            clear qd0 qd1
            have hx5 := dbox_below w5 r a5 n5 c5
            have W5 := Lib.hid ((W4.out.trans (hb5.mono W4.out.size)).trans (hx5.mono (W4.out.trans (hb5.mono W4.out.size)).size))
            have Pd5 := Kd4.out.on hb5
            have Px5 := Kx4.out.on hb5
            have Kd5 := Lib.hid (Pd5.on hx5)
            have Kx5 := Lib.hid (Px5.on hx5)
            have HDx5 := Lib.hid ((HDx4.out.below hb5).below hx5)
            have HDy5 := Lib.hid (HE5.out.below hx5)
            have Ky5 := Lib.hid (dbox_blok w5 r a5 n5 c5)
            have qd0 : ∀ o, (w5.alloc o).cell? ⟨w.heap.size, 0, none⟩ = some (.int .i64 r) := fun o => dk0 (Pd5.alloc o)
            have qd1 : ∀ o, (w5.alloc o).cell? ⟨w.heap.size, 1, none⟩ = some (.slice a n c) := fun o => dk1 (Pd5.alloc o)
            have qx0 : ∀ o, (w5.alloc o).cell? ⟨w4.heap.size, 0, none⟩ = some (.int .i64 r) := fun o => dk0 (Px5.alloc o)
            have qx1 : ∀ o, (w5.alloc o).cell? ⟨w4.heap.size, 1, none⟩ = some (.slice a4 n4 c4) := fun o => dk1 (Px5.alloc o)
            clear hb5 hx5 Pd5 Px5
            go_wp2_with fail
            refine (find_any r a4 n4 c4 no ya fa _ HDx5.out (by rw [HYA.out]; exact HFA.out)).mono ?_
            rintro e w6 ⟨rfl, hb6⟩
            clear qd0 qd1 qx0 qx1
            have W6 := Lib.hid (W5.out.trans (hb6.mono W5.out.size))
            have Kd6 := Lib.hid (Kd5.out.on hb6)
            have Kx6 := Lib.hid (Kx5.out.on hb6)
            have Ky6 := Lib.hid (Ky5.out.on hb6)
            have HDx6 := Lib.hid (HDx5.out.below hb6)
            have HDy6 := Lib.hid (HDy5.out.below hb6)
            clear hb6
            have qd0 : (w6).cell? ⟨w.heap.size, 0, none⟩ = some (.int .i64 r) := dk0 Kd6.out
            have qd1 : (w6).cell? ⟨w.heap.size, 1, none⟩ = some (.slice a n c) := dk1 Kd6.out
            have qx0 : (w6).cell? ⟨w4.heap.size, 0, none⟩ = some (.int .i64 r) := dk0 Kx6.out
            have qx1 : (w6).cell? ⟨w4.heap.size, 1, none⟩ = some (.slice a4 n4 c4) := dk1 Kx6.out
            have qy0 : (w6).cell? ⟨w5.heap.size, 0, none⟩ = some (.int .i64 r) := dk0 Ky6.out
            have qy1 : (w6).cell? ⟨w5.heap.size, 1, none⟩ = some (.slice a5 n5 c5) := dk1 Ky6.out
            go_wp2_with fail
            refine (find_any r a n c other xs fo _ (HD.out.below W6.out) HFO.out).mono ?_
            rintro e w7 ⟨rfl, hb7⟩
            clear qd0 qd1 qx0 qx1 qy0 qy1
            have W7 := Lib.hid (W6.out.trans (hb7.mono W6.out.size))
            have Kd7 := Lib.hid (Kd6.out.on hb7)
            have Kx7 := Lib.hid (Kx6.out.on hb7)
            have Ky7 := Lib.hid (Ky6.out.on hb7)
            have HDx7 := Lib.hid (HDx6.out.below hb7)
            have HDy7 := Lib.hid (HDy6.out.below hb7)
            clear hb7
            have qd0 : (w7).cell? ⟨w.heap.size, 0, none⟩ = some (.int .i64 r) := dk0 Kd7.out
            have qd1 : (w7).cell? ⟨w.heap.size, 1, none⟩ = some (.slice a n c) := dk1 Kd7.out
            have qx0 : (w7).cell? ⟨w4.heap.size, 0, none⟩ = some (.int .i64 r) := dk0 Kx7.out
            have qx1 : (w7).cell? ⟨w4.heap.size, 1, none⟩ = some (.slice a4 n4 c4) := dk1 Kx7.out
            have qy0 : (w7).cell? ⟨w5.heap.size, 0, none⟩ = some (.int .i64 r) := dk0 Ky7.out
            have qy1 : (w7).cell? ⟨w5.heap.size, 1, none⟩ = some (.slice a5 n5 c5) := dk1 Ky7.out
            go_wp2_with fail
            refine (find_any r a n c no xs (-1) _ (HD.out.below W7.out) HFN.out).mono ?_
            rintro e w8 ⟨rfl, hb8⟩
            clear qd0 qd1 qx0 qx1 qy0 qy1
            have W8 := Lib.hid (W7.out.trans (hb8.mono W7.out.size))
            have Kd8 := Lib.hid (Kd7.out.on hb8)
            have Kx8 := Lib.hid (Kx7.out.on hb8)
            have Ky8 := Lib.hid (Ky7.out.on hb8)
            have HDx8 := Lib.hid (HDx7.out.below hb8)
            have HDy8 := Lib.hid (HDy7.out.below hb8)
            clear hb8
            have qd0 : (w8).cell? ⟨w.heap.size, 0, none⟩ = some (.int .i64 r) := dk0 Kd8.out
            have qd1 : (w8).cell? ⟨w.heap.size, 1, none⟩ = some (.slice a n c) := dk1 Kd8.out
            have qx0 : (w8).cell? ⟨w4.heap.size, 0, none⟩ = some (.int .i64 r) := dk0 Kx8.out
            have qx1 : (w8).cell? ⟨w4.heap.size, 1, none⟩ = some (.slice a4 n4 c4) := dk1 Kx8.out
            have qy0 : (w8).cell? ⟨w5.heap.size, 0, none⟩ = some (.int .i64 r) := dk0 Ky8.out
            have qy1 : (w8).cell? ⟨w5.heap.size, 1, none⟩ = some (.slice a5 n5 c5) := dk1 Ky8.out
            go_wp2
            go_ret
            exact ⟨rfl, W8.out⟩
          · have eo : (other == no) = false := by simpa using ho
            have dga := HGA.out ho
            have dgb := HGB.out ho
            clear ho
            go_enter Try.func8, Try.ntmps8
            go_wp2_with fail
            refine (awake_any (dbox w r a n c)).mono ?_
            rintro e w1 ⟨rfl, hb1⟩
            have W1 := Lib.hid (HBX.out.trans (hb1.mono HBX.out.size))
            have Kd1 : Hid (Blok w1 (w.heap.size) 24 #[.int .i64 r, .slice a n c]) := Lib.hid ((dbox_blok w r a n c).on hb1)
            clear hb1
            have qd0 : (w1).cell? ⟨w.heap.size, 0, none⟩ = some (.int .i64 r) := dk0 Kd1.out
            have qd1 : (w1).cell? ⟨w.heap.size, 1, none⟩ = some (.slice a n c) := dk1 Kd1.out
            go_wp2_with fail
            refine (few_any r a n c xs true _ (HD.out.below W1.out) HF.out).mono ?_
            rintro e w2 ⟨rfl, hb2⟩
            clear qd0 qd1
            have W2 := Lib.hid (W1.out.trans (hb2.mono W1.out.size))
            have Kd2 := Lib.hid (Kd1.out.on hb2)
            clear hb2
            have qd0 : (w2).cell? ⟨w.heap.size, 0, none⟩ = some (.int .i64 r) := dk0 Kd2.out
            have qd1 : (w2).cell? ⟨w.heap.size, 1, none⟩ = some (.slice a n c) := dk1 Kd2.out
            go_wp2_with fail
            refine (may_any r a n c xs true _ (HD.out.below W2.out) HM.out).mono ?_
            rintro e w3 ⟨rfl, hb3⟩
            clear qd0 qd1
            have W3 := Lib.hid (W2.out.trans (hb3.mono W2.out.size))
            have Kd3 := Lib.hid (Kd2.out.on hb3)
            clear hb3
            have qd0 : (w3).cell? ⟨w.heap.size, 0, none⟩ = some (.int .i64 r) := dk0 Kd3.out
            have qd1 : (w3).cell? ⟨w.heap.size, 1, none⟩ = some (.slice a n c) := dk1 Kd3.out
            go_wp2_with fail
            refine (make_any r a n c no xs _ (HD.out.below W3.out) HSM.out).mono ?_
            rw [HQ.out]
            rintro e w4 ⟨a4, n4, c4, ya, rfl, HE4, HYA, _, hb4⟩
            clear qd0 qd1
            have hx4 := dbox_below w4 r a4 n4 c4
            have W4 := Lib.hid ((W3.out.trans (hb4.mono W3.out.size)).trans (hx4.mono (W3.out.trans (hb4.mono W3.out.size)).size))
            have Pd4 := Kd3.out.on hb4
            have Kd4 := Lib.hid (Pd4.on hx4)
            have HDx4 := Lib.hid (HE4.out.below hx4)
            have Kx4 := Lib.hid (dbox_blok w4 r a4 n4 c4)
            have qd0 : ∀ o, (w4.alloc o).cell? ⟨w.heap.size, 0, none⟩ = some (.int .i64 r) := fun o => dk0 (Pd4.alloc o)
            have qd1 : ∀ o, (w4.alloc o).cell? ⟨w.heap.size, 1, none⟩ = some (.slice a n c) := fun o => dk1 (Pd4.alloc o)
            clear hb4 hx4 Pd4
            go_wp2_with fail
            refine (drop_any r a n c no xs _ (HD.out.below W4.out) HSM.out).mono ?_
            rw [HR.out]
            rintro e w5 ⟨a5, n5, c5, yb, rfl, HE5, HYB, _, hb5⟩
            clear qd0 qd1
            have hx5 := dbox_below w5 r a5 n5 c5
            have W5 := Lib.hid ((W4.out.trans (hb5.mono W4.out.size)).trans (hx5.mono (W4.out.trans (hb5.mono W4.out.size)).size))
            have Pd5 := Kd4.out.on hb5
            have Px5 := Kx4.out.on hb5
            have Kd5 := Lib.hid (Pd5.on hx5)
            have Kx5 := Lib.hid (Px5.on hx5)
            have HDx5 := Lib.hid ((HDx4.out.below hb5).below hx5)
            have HDy5 := Lib.hid (HE5.out.below hx5)
            have Ky5 := Lib.hid (dbox_blok w5 r a5 n5 c5)
            have qd0 : ∀ o, (w5.alloc o).cell? ⟨w.heap.size, 0, none⟩ = some (.int .i64 r) := fun o => dk0 (Pd5.alloc o)
            have qd1 : ∀ o, (w5.alloc o).cell? ⟨w.heap.size, 1, none⟩ = some (.slice a n c) := fun o => dk1 (Pd5.alloc o)
            have qx0 : ∀ o, (w5.alloc o).cell? ⟨w4.heap.size, 0, none⟩ = some (.int .i64 r) := fun o => dk0 (Px5.alloc o)
            have qx1 : ∀ o, (w5.alloc o).cell? ⟨w4.heap.size, 1, none⟩ = some (.slice a4 n4 c4) := fun o => dk1 (Px5.alloc o)
            clear hb5 hx5 Pd5 Px5
            go_wp2_with fail
            refine (find_any r a4 n4 c4 no ya fa _ HDx5.out (by rw [HYA.out]; exact HFA.out)).mono ?_
            rintro e w6 ⟨rfl, hb6⟩
            clear qd0 qd1 qx0 qx1
            have W6 := Lib.hid (W5.out.trans (hb6.mono W5.out.size))
            have Kd6 := Lib.hid (Kd5.out.on hb6)
            have Kx6 := Lib.hid (Kx5.out.on hb6)
            have Ky6 := Lib.hid (Ky5.out.on hb6)
            have HDx6 := Lib.hid (HDx5.out.below hb6)
            have HDy6 := Lib.hid (HDy5.out.below hb6)
            clear hb6
            have qd0 : (w6).cell? ⟨w.heap.size, 0, none⟩ = some (.int .i64 r) := dk0 Kd6.out
            have qd1 : (w6).cell? ⟨w.heap.size, 1, none⟩ = some (.slice a n c) := dk1 Kd6.out
            have qx0 : (w6).cell? ⟨w4.heap.size, 0, none⟩ = some (.int .i64 r) := dk0 Kx6.out
            have qx1 : (w6).cell? ⟨w4.heap.size, 1, none⟩ = some (.slice a4 n4 c4) := dk1 Kx6.out
            have qy0 : (w6).cell? ⟨w5.heap.size, 0, none⟩ = some (.int .i64 r) := dk0 Ky6.out
            have qy1 : (w6).cell? ⟨w5.heap.size, 1, none⟩ = some (.slice a5 n5 c5) := dk1 Ky6.out
            go_wp2_with fail
            refine (find_any r a n c other xs fo _ (HD.out.below W6.out) HFO.out).mono ?_
            rintro e w7 ⟨rfl, hb7⟩
            clear qd0 qd1 qx0 qx1 qy0 qy1
            have W7 := Lib.hid (W6.out.trans (hb7.mono W6.out.size))
            have Kd7 := Lib.hid (Kd6.out.on hb7)
            have Kx7 := Lib.hid (Kx6.out.on hb7)
            have Ky7 := Lib.hid (Ky6.out.on hb7)
            have HDx7 := Lib.hid (HDx6.out.below hb7)
            have HDy7 := Lib.hid (HDy6.out.below hb7)
            clear hb7
            have qd0 : (w7).cell? ⟨w.heap.size, 0, none⟩ = some (.int .i64 r) := dk0 Kd7.out
            have qd1 : (w7).cell? ⟨w.heap.size, 1, none⟩ = some (.slice a n c) := dk1 Kd7.out
            have qx0 : (w7).cell? ⟨w4.heap.size, 0, none⟩ = some (.int .i64 r) := dk0 Kx7.out
            have qx1 : (w7).cell? ⟨w4.heap.size, 1, none⟩ = some (.slice a4 n4 c4) := dk1 Kx7.out
            have qy0 : (w7).cell? ⟨w5.heap.size, 0, none⟩ = some (.int .i64 r) := dk0 Ky7.out
            have qy1 : (w7).cell? ⟨w5.heap.size, 1, none⟩ = some (.slice a5 n5 c5) := dk1 Ky7.out
            go_wp2_with fail
            refine (find_any r a n c no xs (-1) _ (HD.out.below W7.out) HFN.out).mono ?_
            rintro e w8 ⟨rfl, hb8⟩
            clear qd0 qd1 qx0 qx1 qy0 qy1
            have W8 := Lib.hid (W7.out.trans (hb8.mono W7.out.size))
            have Kd8 := Lib.hid (Kd7.out.on hb8)
            have Kx8 := Lib.hid (Kx7.out.on hb8)
            have Ky8 := Lib.hid (Ky7.out.on hb8)
            have HDx8 := Lib.hid (HDx7.out.below hb8)
            have HDy8 := Lib.hid (HDy7.out.below hb8)
            clear hb8
            have qd0 : (w8).cell? ⟨w.heap.size, 0, none⟩ = some (.int .i64 r) := dk0 Kd8.out
            have qd1 : (w8).cell? ⟨w.heap.size, 1, none⟩ = some (.slice a n c) := dk1 Kd8.out
            have qx0 : (w8).cell? ⟨w4.heap.size, 0, none⟩ = some (.int .i64 r) := dk0 Kx8.out
            have qx1 : (w8).cell? ⟨w4.heap.size, 1, none⟩ = some (.slice a4 n4 c4) := dk1 Kx8.out
            have qy0 : (w8).cell? ⟨w5.heap.size, 0, none⟩ = some (.int .i64 r) := dk0 Ky8.out
            have qy1 : (w8).cell? ⟨w5.heap.size, 1, none⟩ = some (.slice a5 n5 c5) := dk1 Ky8.out
            go_wp2_with fail
            refine (find_any r a4 n4 c4 other ya ga _ HDx8.out (by rw [HYA.out]; exact HGA2.out)).mono ?_
            rintro e w9 ⟨rfl, hb9⟩
            clear qd0 qd1 qx0 qx1 qy0 qy1
            have W9 := Lib.hid (W8.out.trans (hb9.mono W8.out.size))
            have Kd9 := Lib.hid (Kd8.out.on hb9)
            have Kx9 := Lib.hid (Kx8.out.on hb9)
            have Ky9 := Lib.hid (Ky8.out.on hb9)
            have HDx9 := Lib.hid (HDx8.out.below hb9)
            have HDy9 := Lib.hid (HDy8.out.below hb9)
            clear hb9
            have qd0 : (w9).cell? ⟨w.heap.size, 0, none⟩ = some (.int .i64 r) := dk0 Kd9.out
            have qd1 : (w9).cell? ⟨w.heap.size, 1, none⟩ = some (.slice a n c) := dk1 Kd9.out
            have qx0 : (w9).cell? ⟨w4.heap.size, 0, none⟩ = some (.int .i64 r) := dk0 Kx9.out
            have qx1 : (w9).cell? ⟨w4.heap.size, 1, none⟩ = some (.slice a4 n4 c4) := dk1 Kx9.out
            have qy0 : (w9).cell? ⟨w5.heap.size, 0, none⟩ = some (.int .i64 r) := dk0 Ky9.out
            have qy1 : (w9).cell? ⟨w5.heap.size, 1, none⟩ = some (.slice a5 n5 c5) := dk1 Ky9.out
            go_wp2_with fail
            refine (find_any r a5 n5 c5 other yb gb _ HDy9.out (by rw [HYB.out]; exact HGB2.out)).mono ?_
            rintro e w10 ⟨rfl, hb10⟩
            clear qd0 qd1 qx0 qx1 qy0 qy1
            have W10 := Lib.hid (W9.out.trans (hb10.mono W9.out.size))
            have Kd10 := Lib.hid (Kd9.out.on hb10)
            have Kx10 := Lib.hid (Kx9.out.on hb10)
            have Ky10 := Lib.hid (Ky9.out.on hb10)
            have HDx10 := Lib.hid (HDx9.out.below hb10)
            have HDy10 := Lib.hid (HDy9.out.below hb10)
            clear hb10
            have qd0 : (w10).cell? ⟨w.heap.size, 0, none⟩ = some (.int .i64 r) := dk0 Kd10.out
            have qd1 : (w10).cell? ⟨w.heap.size, 1, none⟩ = some (.slice a n c) := dk1 Kd10.out
            have qx0 : (w10).cell? ⟨w4.heap.size, 0, none⟩ = some (.int .i64 r) := dk0 Kx10.out
            have qx1 : (w10).cell? ⟨w4.heap.size, 1, none⟩ = some (.slice a4 n4 c4) := dk1 Kx10.out
            have qy0 : (w10).cell? ⟨w5.heap.size, 0, none⟩ = some (.int .i64 r) := dk0 Ky10.out
            have qy1 : (w10).cell? ⟨w5.heap.size, 1, none⟩ = some (.slice a5 n5 c5) := dk1 Ky10.out
            go_wp2
            go_ret
            exact ⟨rfl, W10.out⟩
        · have ee : (ed == 0) = true := by rw [hde.1]; rfl
          obtain ⟨hd0, hlb, hfn, hfb⟩ := hde
          subst hfb
          subst hd0
          have dfn : decide (0 ≤ fn) = true := by simpa using hfn
          clear hfn
          by_cases ho : other = no
          · have eo : (other == no) = true := by simpa using ho
            clear ho
            go_enter Try.func8, Try.ntmps8
            go_wp2_with fail
            refine (awake_any (dbox w r a n c)).mono ?_
            rintro e w1 ⟨rfl, hb1⟩
            have W1 := Lib.hid (HBX.out.trans (hb1.mono HBX.out.size))
            have Kd1 : Hid (Blok w1 (w.heap.size) 24 #[.int .i64 r, .slice a n c]) := Lib.hid ((dbox_blok w r a n c).on hb1)
            clear hb1
            have qd0 : (w1).cell? ⟨w.heap.size, 0, none⟩ = some (.int .i64 r) := dk0 Kd1.out
            have qd1 : (w1).cell? ⟨w.heap.size, 1, none⟩ = some (.slice a n c) := dk1 Kd1.out
            go_wp2_with fail
            refine (few_any r a n c xs true _ (HD.out.below W1.out) HF.out).mono ?_
            rintro e w2 ⟨rfl, hb2⟩
            clear qd0 qd1
            have W2 := Lib.hid (W1.out.trans (hb2.mono W1.out.size))
            have Kd2 := Lib.hid (Kd1.out.on hb2)
            clear hb2
            have qd0 : (w2).cell? ⟨w.heap.size, 0, none⟩ = some (.int .i64 r) := dk0 Kd2.out
            have qd1 : (w2).cell? ⟨w.heap.size, 1, none⟩ = some (.slice a n c) := dk1 Kd2.out
            go_wp2_with fail
            refine (may_any r a n c xs true _ (HD.out.below W2.out) HM.out).mono ?_
            rintro e w3 ⟨rfl, hb3⟩
            clear qd0 qd1
            have W3 := Lib.hid (W2.out.trans (hb3.mono W2.out.size))
            have Kd3 := Lib.hid (Kd2.out.on hb3)
            clear hb3
            have qd0 : (w3).cell? ⟨w.heap.size, 0, none⟩ = some (.int .i64 r) := dk0 Kd3.out
            have qd1 : (w3).cell? ⟨w.heap.size, 1, none⟩ = some (.slice a n c) := dk1 Kd3.out
            go_wp2_with fail
            refine (make_any r a n c no xs _ (HD.out.below W3.out) HSM.out).mono ?_
            rw [HQ.out]
            rintro e w4 ⟨a4, n4, c4, ya, rfl, HE4, HYA, _, hb4⟩
            clear qd0 qd1
            have hx4 := dbox_below w4 r a4 n4 c4
            have W4 := Lib.hid ((W3.out.trans (hb4.mono W3.out.size)).trans (hx4.mono (W3.out.trans (hb4.mono W3.out.size)).size))
            have Pd4 := Kd3.out.on hb4
            have Kd4 := Lib.hid (Pd4.on hx4)
            have HDx4 := Lib.hid (HE4.out.below hx4)
            have Kx4 := Lib.hid (dbox_blok w4 r a4 n4 c4)
            have qd0 : ∀ o, (w4.alloc o).cell? ⟨w.heap.size, 0, none⟩ = some (.int .i64 r) := fun o => dk0 (Pd4.alloc o)
            have qd1 : ∀ o, (w4.alloc o).cell? ⟨w.heap.size, 1, none⟩ = some (.slice a n c) := fun o => dk1 (Pd4.alloc o)
            clear hb4 hx4 Pd4
            go_wp2_with fail
            refine (drop_any r a n c no xs _ (HD.out.below W4.out) HSM.out).mono ?_
            rw [HR.out]
            rintro e w5 ⟨a5, n5, c5, yb, rfl, HE5, HYB, _, hb5⟩
            clear qd0 qd1
            have hx5 := dbox_below w5 r a5 n5 c5
            have W5 := Lib.hid ((W4.out.trans (hb5.mono W4.out.size)).trans (hx5.mono (W4.out.trans (hb5.mono W4.out.size)).size))
            have Pd5 := Kd4.out.on hb5
            have Px5 := Kx4.out.on hb5
            have Kd5 := Lib.hid (Pd5.on hx5)
            have Kx5 := Lib.hid (Px5.on hx5)
            have HDx5 := Lib.hid ((HDx4.out.below hb5).below hx5)
            have HDy5 := Lib.hid (HE5.out.below hx5)
            have Ky5 := Lib.hid (dbox_blok w5 r a5 n5 c5)
            have qd0 : ∀ o, (w5.alloc o).cell? ⟨w.heap.size, 0, none⟩ = some (.int .i64 r) := fun o => dk0 (Pd5.alloc o)
            have qd1 : ∀ o, (w5.alloc o).cell? ⟨w.heap.size, 1, none⟩ = some (.slice a n c) := fun o => dk1 (Pd5.alloc o)
            have qx0 : ∀ o, (w5.alloc o).cell? ⟨w4.heap.size, 0, none⟩ = some (.int .i64 r) := fun o => dk0 (Px5.alloc o)
            have qx1 : ∀ o, (w5.alloc o).cell? ⟨w4.heap.size, 1, none⟩ = some (.slice a4 n4 c4) := fun o => dk1 (Px5.alloc o)
            clear hb5 hx5 Pd5 Px5
            go_wp2_with fail
            refine (find_any r a4 n4 c4 no ya fa _ HDx5.out (by rw [HYA.out]; exact HFA.out)).mono ?_
            rintro e w6 ⟨rfl, hb6⟩
            clear qd0 qd1 qx0 qx1
            have W6 := Lib.hid (W5.out.trans (hb6.mono W5.out.size))
            have Kd6 := Lib.hid (Kd5.out.on hb6)
            have Kx6 := Lib.hid (Kx5.out.on hb6)
            have Ky6 := Lib.hid (Ky5.out.on hb6)
            have HDx6 := Lib.hid (HDx5.out.below hb6)
            have HDy6 := Lib.hid (HDy5.out.below hb6)
            clear hb6
            have qd0 : (w6).cell? ⟨w.heap.size, 0, none⟩ = some (.int .i64 r) := dk0 Kd6.out
            have qd1 : (w6).cell? ⟨w.heap.size, 1, none⟩ = some (.slice a n c) := dk1 Kd6.out
            have qx0 : (w6).cell? ⟨w4.heap.size, 0, none⟩ = some (.int .i64 r) := dk0 Kx6.out
            have qx1 : (w6).cell? ⟨w4.heap.size, 1, none⟩ = some (.slice a4 n4 c4) := dk1 Kx6.out
            have qy0 : (w6).cell? ⟨w5.heap.size, 0, none⟩ = some (.int .i64 r) := dk0 Ky6.out
            have qy1 : (w6).cell? ⟨w5.heap.size, 1, none⟩ = some (.slice a5 n5 c5) := dk1 Ky6.out
            go_wp2_with fail
            refine (find_any r a5 n5 c5 no yb (-1) _ HDy6.out (by rw [HYB.out]; exact HFB.out)).mono ?_
            rintro e w7 ⟨rfl, hb7⟩
            clear qd0 qd1 qx0 qx1 qy0 qy1
            have W7 := Lib.hid (W6.out.trans (hb7.mono W6.out.size))
            have Kd7 := Lib.hid (Kd6.out.on hb7)
            have Kx7 := Lib.hid (Kx6.out.on hb7)
            have Ky7 := Lib.hid (Ky6.out.on hb7)
            have HDx7 := Lib.hid (HDx6.out.below hb7)
            have HDy7 := Lib.hid (HDy6.out.below hb7)
            clear hb7
            have qd0 : (w7).cell? ⟨w.heap.size, 0, none⟩ = some (.int .i64 r) := dk0 Kd7.out
            have qd1 : (w7).cell? ⟨w.heap.size, 1, none⟩ = some (.slice a n c) := dk1 Kd7.out
            have qx0 : (w7).cell? ⟨w4.heap.size, 0, none⟩ = some (.int .i64 r) := dk0 Kx7.out
            have qx1 : (w7).cell? ⟨w4.heap.size, 1, none⟩ = some (.slice a4 n4 c4) := dk1 Kx7.out
            have qy0 : (w7).cell? ⟨w5.heap.size, 0, none⟩ = some (.int .i64 r) := dk0 Ky7.out
            have qy1 : (w7).cell? ⟨w5.heap.size, 1, none⟩ = some (.slice a5 n5 c5) := dk1 Ky7.out
            have hly : (((n5 : Nat) : Int) != (n : Int) - 1) = false := by
              have h1 := HXN.out
              have h2 := congrArg List.length HYB.out
              have h3 := HDy7.out.1
              rw [FP.files_len] at h2
              simp
              omega
            go_wp2_with fail
            refine (find_any r a n c other xs fo _ (HD.out.below W7.out) HFO.out).mono ?_
            rintro e w8 ⟨rfl, hb8⟩
            clear qd0 qd1 qx0 qx1 qy0 qy1
            have W8 := Lib.hid (W7.out.trans (hb8.mono W7.out.size))
            have Kd8 := Lib.hid (Kd7.out.on hb8)
            have Kx8 := Lib.hid (Kx7.out.on hb8)
            have Ky8 := Lib.hid (Ky7.out.on hb8)
            have HDx8 := Lib.hid (HDx7.out.below hb8)
            have HDy8 := Lib.hid (HDy7.out.below hb8)
            clear hb8
            have qd0 : (w8).cell? ⟨w.heap.size, 0, none⟩ = some (.int .i64 r) := dk0 Kd8.out
            have qd1 : (w8).cell? ⟨w.heap.size, 1, none⟩ = some (.slice a n c) := dk1 Kd8.out
            have qx0 : (w8).cell? ⟨w4.heap.size, 0, none⟩ = some (.int .i64 r) := dk0 Kx8.out
            have qx1 : (w8).cell? ⟨w4.heap.size, 1, none⟩ = some (.slice a4 n4 c4) := dk1 Kx8.out
            have qy0 : (w8).cell? ⟨w5.heap.size, 0, none⟩ = some (.int .i64 r) := dk0 Ky8.out
            have qy1 : (w8).cell? ⟨w5.heap.size, 1, none⟩ = some (.slice a5 n5 c5) := dk1 Ky8.out
            go_wp2_with fail
            refine (find_any r a n c no xs fn _ (HD.out.below W8.out) HFN.out).mono ?_
            rintro e w9 ⟨rfl, hb9⟩
            clear qd0 qd1 qx0 qx1 qy0 qy1
            have W9 := Lib.hid (W8.out.trans (hb9.mono W8.out.size))
            have Kd9 := Lib.hid (Kd8.out.on hb9)
            have Kx9 := Lib.hid (Kx8.out.on hb9)
            have Ky9 := Lib.hid (Ky8.out.on hb9)
            have HDx9 := Lib.hid (HDx8.out.below hb9)
            have HDy9 := Lib.hid (HDy8.out.below hb9)
            clear hb9
            have qd0 : (w9).cell? ⟨w.heap.size, 0, none⟩ = some (.int .i64 r) := dk0 Kd9.out
            have qd1 : (w9).cell? ⟨w.heap.size, 1, none⟩ = some (.slice a n c) := dk1 Kd9.out
            have qx0 : (w9).cell? ⟨w4.heap.size, 0, none⟩ = some (.int .i64 r) := dk0 Kx9.out
            have qx1 : (w9).cell? ⟨w4.heap.size, 1, none⟩ = some (.slice a4 n4 c4) := dk1 Kx9.out
            have qy0 : (w9).cell? ⟨w5.heap.size, 0, none⟩ = some (.int .i64 r) := dk0 Ky9.out
            have qy1 : (w9).cell? ⟨w5.heap.size, 1, none⟩ = some (.slice a5 n5 c5) := dk1 Ky9.out
            go_wp2
            go_ret
            exact ⟨rfl, W9.out⟩
          · have eo : (other == no) = false := by simpa using ho
            have dga := HGA.out ho
            have dgb := HGB.out ho
            clear ho
            go_enter Try.func8, Try.ntmps8
            go_wp2_with fail
            refine (awake_any (dbox w r a n c)).mono ?_
            rintro e w1 ⟨rfl, hb1⟩
            have W1 := Lib.hid (HBX.out.trans (hb1.mono HBX.out.size))
            have Kd1 : Hid (Blok w1 (w.heap.size) 24 #[.int .i64 r, .slice a n c]) := Lib.hid ((dbox_blok w r a n c).on hb1)
            clear hb1
            have qd0 : (w1).cell? ⟨w.heap.size, 0, none⟩ = some (.int .i64 r) := dk0 Kd1.out
            have qd1 : (w1).cell? ⟨w.heap.size, 1, none⟩ = some (.slice a n c) := dk1 Kd1.out
            go_wp2_with fail
            refine (few_any r a n c xs true _ (HD.out.below W1.out) HF.out).mono ?_
            rintro e w2 ⟨rfl, hb2⟩
            clear qd0 qd1
            have W2 := Lib.hid (W1.out.trans (hb2.mono W1.out.size))
            have Kd2 := Lib.hid (Kd1.out.on hb2)
            clear hb2
            have qd0 : (w2).cell? ⟨w.heap.size, 0, none⟩ = some (.int .i64 r) := dk0 Kd2.out
            have qd1 : (w2).cell? ⟨w.heap.size, 1, none⟩ = some (.slice a n c) := dk1 Kd2.out
            go_wp2_with fail
            refine (may_any r a n c xs true _ (HD.out.below W2.out) HM.out).mono ?_
            rintro e w3 ⟨rfl, hb3⟩
            clear qd0 qd1
            have W3 := Lib.hid (W2.out.trans (hb3.mono W2.out.size))
            have Kd3 := Lib.hid (Kd2.out.on hb3)
            clear hb3
            have qd0 : (w3).cell? ⟨w.heap.size, 0, none⟩ = some (.int .i64 r) := dk0 Kd3.out
            have qd1 : (w3).cell? ⟨w.heap.size, 1, none⟩ = some (.slice a n c) := dk1 Kd3.out
            go_wp2_with fail
            refine (make_any r a n c no xs _ (HD.out.below W3.out) HSM.out).mono ?_
            rw [HQ.out]
            rintro e w4 ⟨a4, n4, c4, ya, rfl, HE4, HYA, _, hb4⟩
            clear qd0 qd1
            have hx4 := dbox_below w4 r a4 n4 c4
            have W4 := Lib.hid ((W3.out.trans (hb4.mono W3.out.size)).trans (hx4.mono (W3.out.trans (hb4.mono W3.out.size)).size))
            have Pd4 := Kd3.out.on hb4
            have Kd4 := Lib.hid (Pd4.on hx4)
            have HDx4 := Lib.hid (HE4.out.below hx4)
            have Kx4 := Lib.hid (dbox_blok w4 r a4 n4 c4)
            have qd0 : ∀ o, (w4.alloc o).cell? ⟨w.heap.size, 0, none⟩ = some (.int .i64 r) := fun o => dk0 (Pd4.alloc o)
            have qd1 : ∀ o, (w4.alloc o).cell? ⟨w.heap.size, 1, none⟩ = some (.slice a n c) := fun o => dk1 (Pd4.alloc o)
            clear hb4 hx4 Pd4
            go_wp2_with fail
            refine (drop_any r a n c no xs _ (HD.out.below W4.out) HSM.out).mono ?_
            rw [HR.out]
            rintro e w5 ⟨a5, n5, c5, yb, rfl, HE5, HYB, _, hb5⟩
            clear qd0 qd1
            have hx5 := dbox_below w5 r a5 n5 c5
            have W5 := Lib.hid ((W4.out.trans (hb5.mono W4.out.size)).trans (hx5.mono (W4.out.trans (hb5.mono W4.out.size)).size))
            have Pd5 := Kd4.out.on hb5
            have Px5 := Kx4.out.on hb5
            have Kd5 := Lib.hid (Pd5.on hx5)
            have Kx5 := Lib.hid (Px5.on hx5)
            have HDx5 := Lib.hid ((HDx4.out.below hb5).below hx5)
            have HDy5 := Lib.hid (HE5.out.below hx5)
            have Ky5 := Lib.hid (dbox_blok w5 r a5 n5 c5)
            have qd0 : ∀ o, (w5.alloc o).cell? ⟨w.heap.size, 0, none⟩ = some (.int .i64 r) := fun o => dk0 (Pd5.alloc o)
            have qd1 : ∀ o, (w5.alloc o).cell? ⟨w.heap.size, 1, none⟩ = some (.slice a n c) := fun o => dk1 (Pd5.alloc o)
            have qx0 : ∀ o, (w5.alloc o).cell? ⟨w4.heap.size, 0, none⟩ = some (.int .i64 r) := fun o => dk0 (Px5.alloc o)
            have qx1 : ∀ o, (w5.alloc o).cell? ⟨w4.heap.size, 1, none⟩ = some (.slice a4 n4 c4) := fun o => dk1 (Px5.alloc o)
            clear hb5 hx5 Pd5 Px5
            go_wp2_with fail
            refine (find_any r a4 n4 c4 no ya fa _ HDx5.out (by rw [HYA.out]; exact HFA.out)).mono ?_
            rintro e w6 ⟨rfl, hb6⟩
            clear qd0 qd1 qx0 qx1
            have W6 := Lib.hid (W5.out.trans (hb6.mono W5.out.size))
            have Kd6 := Lib.hid (Kd5.out.on hb6)
            have Kx6 := Lib.hid (Kx5.out.on hb6)
            have Ky6 := Lib.hid (Ky5.out.on hb6)
            have HDx6 := Lib.hid (HDx5.out.below hb6)
            have HDy6 := Lib.hid (HDy5.out.below hb6)
            clear hb6
            have qd0 : (w6).cell? ⟨w.heap.size, 0, none⟩ = some (.int .i64 r) := dk0 Kd6.out
            have qd1 : (w6).cell? ⟨w.heap.size, 1, none⟩ = some (.slice a n c) := dk1 Kd6.out
            have qx0 : (w6).cell? ⟨w4.heap.size, 0, none⟩ = some (.int .i64 r) := dk0 Kx6.out
            have qx1 : (w6).cell? ⟨w4.heap.size, 1, none⟩ = some (.slice a4 n4 c4) := dk1 Kx6.out
            have qy0 : (w6).cell? ⟨w5.heap.size, 0, none⟩ = some (.int .i64 r) := dk0 Ky6.out
            have qy1 : (w6).cell? ⟨w5.heap.size, 1, none⟩ = some (.slice a5 n5 c5) := dk1 Ky6.out
            go_wp2_with fail
            refine (find_any r a5 n5 c5 no yb (-1) _ HDy6.out (by rw [HYB.out]; exact HFB.out)).mono ?_
            rintro e w7 ⟨rfl, hb7⟩
            clear qd0 qd1 qx0 qx1 qy0 qy1
            have W7 := Lib.hid (W6.out.trans (hb7.mono W6.out.size))
            have Kd7 := Lib.hid (Kd6.out.on hb7)
            have Kx7 := Lib.hid (Kx6.out.on hb7)
            have Ky7 := Lib.hid (Ky6.out.on hb7)
            have HDx7 := Lib.hid (HDx6.out.below hb7)
            have HDy7 := Lib.hid (HDy6.out.below hb7)
            clear hb7
            have qd0 : (w7).cell? ⟨w.heap.size, 0, none⟩ = some (.int .i64 r) := dk0 Kd7.out
            have qd1 : (w7).cell? ⟨w.heap.size, 1, none⟩ = some (.slice a n c) := dk1 Kd7.out
            have qx0 : (w7).cell? ⟨w4.heap.size, 0, none⟩ = some (.int .i64 r) := dk0 Kx7.out
            have qx1 : (w7).cell? ⟨w4.heap.size, 1, none⟩ = some (.slice a4 n4 c4) := dk1 Kx7.out
            have qy0 : (w7).cell? ⟨w5.heap.size, 0, none⟩ = some (.int .i64 r) := dk0 Ky7.out
            have qy1 : (w7).cell? ⟨w5.heap.size, 1, none⟩ = some (.slice a5 n5 c5) := dk1 Ky7.out
            have hly : (((n5 : Nat) : Int) != (n : Int) - 1) = false := by
              have h1 := HXN.out
              have h2 := congrArg List.length HYB.out
              have h3 := HDy7.out.1
              rw [FP.files_len] at h2
              simp
              omega
            go_wp2_with fail
            refine (find_any r a n c other xs fo _ (HD.out.below W7.out) HFO.out).mono ?_
            rintro e w8 ⟨rfl, hb8⟩
            clear qd0 qd1 qx0 qx1 qy0 qy1
            have W8 := Lib.hid (W7.out.trans (hb8.mono W7.out.size))
            have Kd8 := Lib.hid (Kd7.out.on hb8)
            have Kx8 := Lib.hid (Kx7.out.on hb8)
            have Ky8 := Lib.hid (Ky7.out.on hb8)
            have HDx8 := Lib.hid (HDx7.out.below hb8)
            have HDy8 := Lib.hid (HDy7.out.below hb8)
            clear hb8
            have qd0 : (w8).cell? ⟨w.heap.size, 0, none⟩ = some (.int .i64 r) := dk0 Kd8.out
            have qd1 : (w8).cell? ⟨w.heap.size, 1, none⟩ = some (.slice a n c) := dk1 Kd8.out
            have qx0 : (w8).cell? ⟨w4.heap.size, 0, none⟩ = some (.int .i64 r) := dk0 Kx8.out
            have qx1 : (w8).cell? ⟨w4.heap.size, 1, none⟩ = some (.slice a4 n4 c4) := dk1 Kx8.out
            have qy0 : (w8).cell? ⟨w5.heap.size, 0, none⟩ = some (.int .i64 r) := dk0 Ky8.out
            have qy1 : (w8).cell? ⟨w5.heap.size, 1, none⟩ = some (.slice a5 n5 c5) := dk1 Ky8.out
            go_wp2_with fail
            refine (find_any r a n c no xs fn _ (HD.out.below W8.out) HFN.out).mono ?_
            rintro e w9 ⟨rfl, hb9⟩
            clear qd0 qd1 qx0 qx1 qy0 qy1
            have W9 := Lib.hid (W8.out.trans (hb9.mono W8.out.size))
            have Kd9 := Lib.hid (Kd8.out.on hb9)
            have Kx9 := Lib.hid (Kx8.out.on hb9)
            have Ky9 := Lib.hid (Ky8.out.on hb9)
            have HDx9 := Lib.hid (HDx8.out.below hb9)
            have HDy9 := Lib.hid (HDy8.out.below hb9)
            clear hb9
            have qd0 : (w9).cell? ⟨w.heap.size, 0, none⟩ = some (.int .i64 r) := dk0 Kd9.out
            have qd1 : (w9).cell? ⟨w.heap.size, 1, none⟩ = some (.slice a n c) := dk1 Kd9.out
            have qx0 : (w9).cell? ⟨w4.heap.size, 0, none⟩ = some (.int .i64 r) := dk0 Kx9.out
            have qx1 : (w9).cell? ⟨w4.heap.size, 1, none⟩ = some (.slice a4 n4 c4) := dk1 Kx9.out
            have qy0 : (w9).cell? ⟨w5.heap.size, 0, none⟩ = some (.int .i64 r) := dk0 Ky9.out
            have qy1 : (w9).cell? ⟨w5.heap.size, 1, none⟩ = some (.slice a5 n5 c5) := dk1 Ky9.out
            go_wp2_with fail
            refine (find_any r a4 n4 c4 other ya ga _ HDx9.out (by rw [HYA.out]; exact HGA2.out)).mono ?_
            rintro e w10 ⟨rfl, hb10⟩
            clear qd0 qd1 qx0 qx1 qy0 qy1
            have W10 := Lib.hid (W9.out.trans (hb10.mono W9.out.size))
            have Kd10 := Lib.hid (Kd9.out.on hb10)
            have Kx10 := Lib.hid (Kx9.out.on hb10)
            have Ky10 := Lib.hid (Ky9.out.on hb10)
            have HDx10 := Lib.hid (HDx9.out.below hb10)
            have HDy10 := Lib.hid (HDy9.out.below hb10)
            clear hb10
            have qd0 : (w10).cell? ⟨w.heap.size, 0, none⟩ = some (.int .i64 r) := dk0 Kd10.out
            have qd1 : (w10).cell? ⟨w.heap.size, 1, none⟩ = some (.slice a n c) := dk1 Kd10.out
            have qx0 : (w10).cell? ⟨w4.heap.size, 0, none⟩ = some (.int .i64 r) := dk0 Kx10.out
            have qx1 : (w10).cell? ⟨w4.heap.size, 1, none⟩ = some (.slice a4 n4 c4) := dk1 Kx10.out
            have qy0 : (w10).cell? ⟨w5.heap.size, 0, none⟩ = some (.int .i64 r) := dk0 Ky10.out
            have qy1 : (w10).cell? ⟨w5.heap.size, 1, none⟩ = some (.slice a5 n5 c5) := dk1 Ky10.out
            go_wp2_with fail
            refine (find_any r a5 n5 c5 other yb gb _ HDy10.out (by rw [HYB.out]; exact HGB2.out)).mono ?_
            rintro e w11 ⟨rfl, hb11⟩
            clear qd0 qd1 qx0 qx1 qy0 qy1
            have W11 := Lib.hid (W10.out.trans (hb11.mono W10.out.size))
            have Kd11 := Lib.hid (Kd10.out.on hb11)
            have Kx11 := Lib.hid (Kx10.out.on hb11)
            have Ky11 := Lib.hid (Ky10.out.on hb11)
            have HDx11 := Lib.hid (HDx10.out.below hb11)
            have HDy11 := Lib.hid (HDy10.out.below hb11)
            clear hb11
            have qd0 : (w11).cell? ⟨w.heap.size, 0, none⟩ = some (.int .i64 r) := dk0 Kd11.out
            have qd1 : (w11).cell? ⟨w.heap.size, 1, none⟩ = some (.slice a n c) := dk1 Kd11.out
            have qx0 : (w11).cell? ⟨w4.heap.size, 0, none⟩ = some (.int .i64 r) := dk0 Kx11.out
            have qx1 : (w11).cell? ⟨w4.heap.size, 1, none⟩ = some (.slice a4 n4 c4) := dk1 Kx11.out
            have qy0 : (w11).cell? ⟨w5.heap.size, 0, none⟩ = some (.int .i64 r) := dk0 Ky11.out
            have qy1 : (w11).cell? ⟨w5.heap.size, 1, none⟩ = some (.slice a5 n5 c5) := dk1 Ky11.out
            go_wp2
            go_ret
            exact ⟨rfl, W11.out⟩
      · obtain ⟨hm0, hal, hi⟩ := hem
        subst hm0
        rcases HED.out with hde | hde
        · have ee : (ed == 0) = false := by simpa using hde.1
          obtain ⟨hd0, hlb, hfn⟩ := hde
          subst hfn
          have dfn : decide ((0 : Int) ≤ -1) = false := rfl
          clear hd0 hlb
          by_cases ho : other = no
          · have eo : (other == no) = true := by simpa using ho
            clear ho
            go_enter Try.func8, Try.ntmps8
            go_wp2_with fail
            refine (awake_any (dbox w r a n c)).mono ?_
            rintro e w1 ⟨rfl, hb1⟩
            have W1 := Lib.hid (HBX.out.trans (hb1.mono HBX.out.size))
            have Kd1 : Hid (Blok w1 (w.heap.size) 24 #[.int .i64 r, .slice a n c]) := Lib.hid ((dbox_blok w r a n c).on hb1)
            clear hb1
            have qd0 : (w1).cell? ⟨w.heap.size, 0, none⟩ = some (.int .i64 r) := dk0 Kd1.out
            have qd1 : (w1).cell? ⟨w.heap.size, 1, none⟩ = some (.slice a n c) := dk1 Kd1.out
            go_wp2_with fail
            refine (few_any r a n c xs true _ (HD.out.below W1.out) HF.out).mono ?_
            rintro e w2 ⟨rfl, hb2⟩
            clear qd0 qd1
            have W2 := Lib.hid (W1.out.trans (hb2.mono W1.out.size))
            have Kd2 := Lib.hid (Kd1.out.on hb2)
            clear hb2
            have qd0 : (w2).cell? ⟨w.heap.size, 0, none⟩ = some (.int .i64 r) := dk0 Kd2.out
            have qd1 : (w2).cell? ⟨w.heap.size, 1, none⟩ = some (.slice a n c) := dk1 Kd2.out
            go_wp2_with fail
            refine (may_any r a n c xs true _ (HD.out.below W2.out) HM.out).mono ?_
            rintro e w3 ⟨rfl, hb3⟩
            clear qd0 qd1
            have W3 := Lib.hid (W2.out.trans (hb3.mono W2.out.size))
            have Kd3 := Lib.hid (Kd2.out.on hb3)
            clear hb3
            have qd0 : (w3).cell? ⟨w.heap.size, 0, none⟩ = some (.int .i64 r) := dk0 Kd3.out
            have qd1 : (w3).cell? ⟨w.heap.size, 1, none⟩ = some (.slice a n c) := dk1 Kd3.out
            go_wp2_with fail
            refine (make_any r a n c no xs _ (HD.out.below W3.out) HSM.out).mono ?_
            rw [HQ.out]
            rintro e w4 ⟨a4, n4, c4, ya, rfl, HE4, HYA, _, hb4⟩
            clear qd0 qd1
            have hx4 := dbox_below w4 r a4 n4 c4
            have W4 := Lib.hid ((W3.out.trans (hb4.mono W3.out.size)).trans (hx4.mono (W3.out.trans (hb4.mono W3.out.size)).size))
            have Pd4 := Kd3.out.on hb4
            have Kd4 := Lib.hid (Pd4.on hx4)
            have HDx4 := Lib.hid (HE4.out.below hx4)
            have Kx4 := Lib.hid (dbox_blok w4 r a4 n4 c4)
            have qd0 : ∀ o, (w4.alloc o).cell? ⟨w.heap.size, 0, none⟩ = some (.int .i64 r) := fun o => dk0 (Pd4.alloc o)
            have qd1 : ∀ o, (w4.alloc o).cell? ⟨w.heap.size, 1, none⟩ = some (.slice a n c) := fun o => dk1 (Pd4.alloc o)
            clear hb4 hx4 Pd4
            go_wp2_with fail
            refine (drop_any r a n c no xs _ (HD.out.below W4.out) HSM.out).mono ?_
            rw [HR.out]
            rintro e w5 ⟨a5, n5, c5, yb, rfl, HE5, HYB, _, hb5⟩
            clear qd0 qd1
            have hx5 := dbox_below w5 r a5 n5 c5
            have W5 := Lib.hid ((W4.out.trans (hb5.mono W4.out.size)).trans (hx5.mono (W4.out.trans (hb5.mono W4.out.size)).size))
            have Pd5 := Kd4.out.on hb5
            have Px5 := Kx4.out.on hb5
            have Kd5 := Lib.hid (Pd5.on hx5)
            have Kx5 := Lib.hid (Px5.on hx5)
            have HDx5 := Lib.hid ((HDx4.out.below hb5).below hx5)
            have HDy5 := Lib.hid (HE5.out.below hx5)
            have Ky5 := Lib.hid (dbox_blok w5 r a5 n5 c5)
            have qd0 : ∀ o, (w5.alloc o).cell? ⟨w.heap.size, 0, none⟩ = some (.int .i64 r) := fun o => dk0 (Pd5.alloc o)
            have qd1 : ∀ o, (w5.alloc o).cell? ⟨w.heap.size, 1, none⟩ = some (.slice a n c) := fun o => dk1 (Pd5.alloc o)
            have qx0 : ∀ o, (w5.alloc o).cell? ⟨w4.heap.size, 0, none⟩ = some (.int .i64 r) := fun o => dk0 (Px5.alloc o)
            have qx1 : ∀ o, (w5.alloc o).cell? ⟨w4.heap.size, 1, none⟩ = some (.slice a4 n4 c4) := fun o => dk1 (Px5.alloc o)
            clear hb5 hx5 Pd5 Px5
            go_wp2_with fail
            refine (find_any r a4 n4 c4 no ya fa _ HDx5.out (by rw [HYA.out]; exact HFA.out)).mono ?_
            rintro e w6 ⟨rfl, hb6⟩
            clear qd0 qd1 qx0 qx1
            have W6 := Lib.hid (W5.out.trans (hb6.mono W5.out.size))
            have Kd6 := Lib.hid (Kd5.out.on hb6)
            have Kx6 := Lib.hid (Kx5.out.on hb6)
            have Ky6 := Lib.hid (Ky5.out.on hb6)
            have HDx6 := Lib.hid (HDx5.out.below hb6)
            have HDy6 := Lib.hid (HDy5.out.below hb6)
            clear hb6
            have qd0 : (w6).cell? ⟨w.heap.size, 0, none⟩ = some (.int .i64 r) := dk0 Kd6.out
            have qd1 : (w6).cell? ⟨w.heap.size, 1, none⟩ = some (.slice a n c) := dk1 Kd6.out
            have qx0 : (w6).cell? ⟨w4.heap.size, 0, none⟩ = some (.int .i64 r) := dk0 Kx6.out
            have qx1 : (w6).cell? ⟨w4.heap.size, 1, none⟩ = some (.slice a4 n4 c4) := dk1 Kx6.out
            have qy0 : (w6).cell? ⟨w5.heap.size, 0, none⟩ = some (.int .i64 r) := dk0 Ky6.out
            have qy1 : (w6).cell? ⟨w5.heap.size, 1, none⟩ = some (.slice a5 n5 c5) := dk1 Ky6.out
            have hnx : ya.length = n4 := HDx6.out.1
            obtain ⟨i, hfi, hil, hig⟩ := hi
            have hix : i < ya.length := by have h1 := HYA.out; have h2 := congrArg List.length h1; rw [FP.files_len] at h2; omega
            obtain ⟨b1, o1, no1, a1, n1, c1, B1, s1, he1, hb1, hx1, p0, p1, p2, hok1⟩ := (HDx6.out.2.1).at (i := i) hix
            have hB1 : B1 = [] := by
              have h1 := FP.files_at hx1
              rw [HYA.out, hig] at h1
              simp only [FP.file, Prod.mk.injEq] at h1
              exact h1.2.1.symm
            have hn1 : n1 = 0 := by have h1 := hok1.1; rw [hB1] at h1; simpa using h1.symm
            have hcx := HDx6.out.caps
            have hi1 : ¬ n4 ≤ i := by omega
            have hi2 : i < n4 := by omega
            have hlx : (((n4 : Nat) : Int) != (n : Int) + 1) = false := by
              have h1 := HXN.out
              have h2 := congrArg List.length HYA.out
              rw [FP.files_len] at h2
              simp
              omega
            subst hn1
            subst he1
            subst hfi
            clear hB1 hok1 hx1 hil hig hix hnx hb1 hal
            go_wp2_with fail
            refine (find_any r a n c other xs fo _ (HD.out.below W6.out) HFO.out).mono ?_
            rintro e w7 ⟨rfl, hb7⟩
            clear qd0 qd1 qx0 qx1 qy0 qy1
            have W7 := Lib.hid (W6.out.trans (hb7.mono W6.out.size))
            have Kd7 := Lib.hid (Kd6.out.on hb7)
            have Kx7 := Lib.hid (Kx6.out.on hb7)
            have Ky7 := Lib.hid (Ky6.out.on hb7)
            have HDx7 := Lib.hid (HDx6.out.below hb7)
            have HDy7 := Lib.hid (HDy6.out.below hb7)
            clear hb7
            have qd0 : (w7).cell? ⟨w.heap.size, 0, none⟩ = some (.int .i64 r) := dk0 Kd7.out
            have qd1 : (w7).cell? ⟨w.heap.size, 1, none⟩ = some (.slice a n c) := dk1 Kd7.out
            have qx0 : (w7).cell? ⟨w4.heap.size, 0, none⟩ = some (.int .i64 r) := dk0 Kx7.out
            have qx1 : (w7).cell? ⟨w4.heap.size, 1, none⟩ = some (.slice (some ⟨b1, o1, none⟩) n4 c4) := dk1 Kx7.out
            have qy0 : (w7).cell? ⟨w5.heap.size, 0, none⟩ = some (.int .i64 r) := dk0 Ky7.out
            have qy1 : (w7).cell? ⟨w5.heap.size, 1, none⟩ = some (.slice a5 n5 c5) := dk1 Ky7.out
            go_wp2_with fail
            refine (find_any r a n c no xs (-1) _ (HD.out.below W7.out) HFN.out).mono ?_
            rintro e w8 ⟨rfl, hb8⟩
            clear qd0 qd1 qx0 qx1 qy0 qy1
            have W8 := Lib.hid (W7.out.trans (hb8.mono W7.out.size))
            have Kd8 := Lib.hid (Kd7.out.on hb8)
            have Kx8 := Lib.hid (Kx7.out.on hb8)
            have Ky8 := Lib.hid (Ky7.out.on hb8)
            have HDx8 := Lib.hid (HDx7.out.below hb8)
            have HDy8 := Lib.hid (HDy7.out.below hb8)
            clear hb8
            have qd0 : (w8).cell? ⟨w.heap.size, 0, none⟩ = some (.int .i64 r) := dk0 Kd8.out
            have qd1 : (w8).cell? ⟨w.heap.size, 1, none⟩ = some (.slice a n c) := dk1 Kd8.out
            have qx0 : (w8).cell? ⟨w4.heap.size, 0, none⟩ = some (.int .i64 r) := dk0 Kx8.out
            have qx1 : (w8).cell? ⟨w4.heap.size, 1, none⟩ = some (.slice (some ⟨b1, o1, none⟩) n4 c4) := dk1 Kx8.out
            have qy0 : (w8).cell? ⟨w5.heap.size, 0, none⟩ = some (.int .i64 r) := dk0 Ky8.out
            have qy1 : (w8).cell? ⟨w5.heap.size, 1, none⟩ = some (.slice a5 n5 c5) := dk1 Ky8.out
            go_wp2
            go_ret
            exact ⟨rfl, W8.out⟩
          · have eo : (other == no) = false := by simpa using ho
            have dga := HGA.out ho
            have dgb := HGB.out ho
            clear ho
            go_enter Try.func8, Try.ntmps8
            go_wp2_with fail
            refine (awake_any (dbox w r a n c)).mono ?_
            rintro e w1 ⟨rfl, hb1⟩
            have W1 := Lib.hid (HBX.out.trans (hb1.mono HBX.out.size))
            have Kd1 : Hid (Blok w1 (w.heap.size) 24 #[.int .i64 r, .slice a n c]) := Lib.hid ((dbox_blok w r a n c).on hb1)
            clear hb1
            have qd0 : (w1).cell? ⟨w.heap.size, 0, none⟩ = some (.int .i64 r) := dk0 Kd1.out
            have qd1 : (w1).cell? ⟨w.heap.size, 1, none⟩ = some (.slice a n c) := dk1 Kd1.out
            go_wp2_with fail
            refine (few_any r a n c xs true _ (HD.out.below W1.out) HF.out).mono ?_
            rintro e w2 ⟨rfl, hb2⟩
            clear qd0 qd1
            have W2 := Lib.hid (W1.out.trans (hb2.mono W1.out.size))
            have Kd2 := Lib.hid (Kd1.out.on hb2)
            clear hb2
            have qd0 : (w2).cell? ⟨w.heap.size, 0, none⟩ = some (.int .i64 r) := dk0 Kd2.out
            have qd1 : (w2).cell? ⟨w.heap.size, 1, none⟩ = some (.slice a n c) := dk1 Kd2.out
            go_wp2_with fail
            refine (may_any r a n c xs true _ (HD.out.below W2.out) HM.out).mono ?_
            rintro e w3 ⟨rfl, hb3⟩
            clear qd0 qd1
            have W3 := Lib.hid (W2.out.trans (hb3.mono W2.out.size))
            have Kd3 := Lib.hid (Kd2.out.on hb3)
            clear hb3
            have qd0 : (w3).cell? ⟨w.heap.size, 0, none⟩ = some (.int .i64 r) := dk0 Kd3.out
            have qd1 : (w3).cell? ⟨w.heap.size, 1, none⟩ = some (.slice a n c) := dk1 Kd3.out
            go_wp2_with fail
            refine (make_any r a n c no xs _ (HD.out.below W3.out) HSM.out).mono ?_
            rw [HQ.out]
            rintro e w4 ⟨a4, n4, c4, ya, rfl, HE4, HYA, _, hb4⟩
            clear qd0 qd1
            have hx4 := dbox_below w4 r a4 n4 c4
            have W4 := Lib.hid ((W3.out.trans (hb4.mono W3.out.size)).trans (hx4.mono (W3.out.trans (hb4.mono W3.out.size)).size))
            have Pd4 := Kd3.out.on hb4
            have Kd4 := Lib.hid (Pd4.on hx4)
            have HDx4 := Lib.hid (HE4.out.below hx4)
            have Kx4 := Lib.hid (dbox_blok w4 r a4 n4 c4)
            have qd0 : ∀ o, (w4.alloc o).cell? ⟨w.heap.size, 0, none⟩ = some (.int .i64 r) := fun o => dk0 (Pd4.alloc o)
            have qd1 : ∀ o, (w4.alloc o).cell? ⟨w.heap.size, 1, none⟩ = some (.slice a n c) := fun o => dk1 (Pd4.alloc o)
            clear hb4 hx4 Pd4
            go_wp2_with fail
            refine (drop_any r a n c no xs _ (HD.out.below W4.out) HSM.out).mono ?_
            rw [HR.out]
            rintro e w5 ⟨a5, n5, c5, yb, rfl, HE5, HYB, _, hb5⟩
            clear qd0 qd1
            have hx5 := dbox_below w5 r a5 n5 c5
            have W5 := Lib.hid ((W4.out.trans (hb5.mono W4.out.size)).trans (hx5.mono (W4.out.trans (hb5.mono W4.out.size)).size))
            have Pd5 := Kd4.out.on hb5
            have Px5 := Kx4.out.on hb5
            have Kd5 := Lib.hid (Pd5.on hx5)
            have Kx5 := Lib.hid (Px5.on hx5)
            have HDx5 := Lib.hid ((HDx4.out.below hb5).below hx5)
            have HDy5 := Lib.hid (HE5.out.below hx5)
            have Ky5 := Lib.hid (dbox_blok w5 r a5 n5 c5)
            have qd0 : ∀ o, (w5.alloc o).cell? ⟨w.heap.size, 0, none⟩ = some (.int .i64 r) := fun o => dk0 (Pd5.alloc o)
            have qd1 : ∀ o, (w5.alloc o).cell? ⟨w.heap.size, 1, none⟩ = some (.slice a n c) := fun o => dk1 (Pd5.alloc o)
            have qx0 : ∀ o, (w5.alloc o).cell? ⟨w4.heap.size, 0, none⟩ = some (.int .i64 r) := fun o => dk0 (Px5.alloc o)
            have qx1 : ∀ o, (w5.alloc o).cell? ⟨w4.heap.size, 1, none⟩ = some (.slice a4 n4 c4) := fun o => dk1 (Px5.alloc o)
            clear hb5 hx5 Pd5 Px5
            go_wp2_with fail
            refine (find_any r a4 n4 c4 no ya fa _ HDx5.out (by rw [HYA.out]; exact HFA.out)).mono ?_
            rintro e w6 ⟨rfl, hb6⟩
            clear qd0 qd1 qx0 qx1
            have W6 := Lib.hid (W5.out.trans (hb6.mono W5.out.size))
            have Kd6 := Lib.hid (Kd5.out.on hb6)
            have Kx6 := Lib.hid (Kx5.out.on hb6)
            have Ky6 := Lib.hid (Ky5.out.on hb6)
            have HDx6 := Lib.hid (HDx5.out.below hb6)
            have HDy6 := Lib.hid (HDy5.out.below hb6)
            clear hb6
            have qd0 : (w6).cell? ⟨w.heap.size, 0, none⟩ = some (.int .i64 r) := dk0 Kd6.out
            have qd1 : (w6).cell? ⟨w.heap.size, 1, none⟩ = some (.slice a n c) := dk1 Kd6.out
            have qx0 : (w6).cell? ⟨w4.heap.size, 0, none⟩ = some (.int .i64 r) := dk0 Kx6.out
            have qx1 : (w6).cell? ⟨w4.heap.size, 1, none⟩ = some (.slice a4 n4 c4) := dk1 Kx6.out
            have qy0 : (w6).cell? ⟨w5.heap.size, 0, none⟩ = some (.int .i64 r) := dk0 Ky6.out
            have qy1 : (w6).cell? ⟨w5.heap.size, 1, none⟩ = some (.slice a5 n5 c5) := dk1 Ky6.out
            have hnx : ya.length = n4 := HDx6.out.1
            obtain ⟨i, hfi, hil, hig⟩ := hi
            have hix : i < ya.length := by have h1 := HYA.out; have h2 := congrArg List.length h1; rw [FP.files_len] at h2; omega
            obtain ⟨b1, o1, no1, a1, n1, c1, B1, s1, he1, hb1, hx1, p0, p1, p2, hok1⟩ := (HDx6.out.2.1).at (i := i) hix
            have hB1 : B1 = [] := by
              have h1 := FP.files_at hx1
              rw [HYA.out, hig] at h1
              simp only [FP.file, Prod.mk.injEq] at h1
              exact h1.2.1.symm
            have hn1 : n1 = 0 := by have h1 := hok1.1; rw [hB1] at h1; simpa using h1.symm
            have hcx := HDx6.out.caps
            have hi1 : ¬ n4 ≤ i := by omega
            have hi2 : i < n4 := by omega
            have hlx : (((n4 : Nat) : Int) != (n : Int) + 1) = false := by
              have h1 := HXN.out
              have h2 := congrArg List.length HYA.out
              rw [FP.files_len] at h2
              simp
              omega
            subst hn1
            subst he1
            subst hfi
            clear hB1 hok1 hx1 hil hig hix hnx hb1 hal
            go_wp2_with fail
            refine (find_any r a n c other xs fo _ (HD.out.below W6.out) HFO.out).mono ?_
            rintro e w7 ⟨rfl, hb7⟩
            clear qd0 qd1 qx0 qx1 qy0 qy1
            have W7 := Lib.hid (W6.out.trans (hb7.mono W6.out.size))
            have Kd7 := Lib.hid (Kd6.out.on hb7)
            have Kx7 := Lib.hid (Kx6.out.on hb7)
            have Ky7 := Lib.hid (Ky6.out.on hb7)
            have HDx7 := Lib.hid (HDx6.out.below hb7)
            have HDy7 := Lib.hid (HDy6.out.below hb7)
            clear hb7
            have qd0 : (w7).cell? ⟨w.heap.size, 0, none⟩ = some (.int .i64 r) := dk0 Kd7.out
            have qd1 : (w7).cell? ⟨w.heap.size, 1, none⟩ = some (.slice a n c) := dk1 Kd7.out
            have qx0 : (w7).cell? ⟨w4.heap.size, 0, none⟩ = some (.int .i64 r) := dk0 Kx7.out
            have qx1 : (w7).cell? ⟨w4.heap.size, 1, none⟩ = some (.slice (some ⟨b1, o1, none⟩) n4 c4) := dk1 Kx7.out
            have qy0 : (w7).cell? ⟨w5.heap.size, 0, none⟩ = some (.int .i64 r) := dk0 Ky7.out
            have qy1 : (w7).cell? ⟨w5.heap.size, 1, none⟩ = some (.slice a5 n5 c5) := dk1 Ky7.out
            go_wp2_with fail
            refine (find_any r a n c no xs (-1) _ (HD.out.below W7.out) HFN.out).mono ?_
            rintro e w8 ⟨rfl, hb8⟩
            clear qd0 qd1 qx0 qx1 qy0 qy1
            have W8 := Lib.hid (W7.out.trans (hb8.mono W7.out.size))
            have Kd8 := Lib.hid (Kd7.out.on hb8)
            have Kx8 := Lib.hid (Kx7.out.on hb8)
            have Ky8 := Lib.hid (Ky7.out.on hb8)
            have HDx8 := Lib.hid (HDx7.out.below hb8)
            have HDy8 := Lib.hid (HDy7.out.below hb8)
            clear hb8
            have qd0 : (w8).cell? ⟨w.heap.size, 0, none⟩ = some (.int .i64 r) := dk0 Kd8.out
            have qd1 : (w8).cell? ⟨w.heap.size, 1, none⟩ = some (.slice a n c) := dk1 Kd8.out
            have qx0 : (w8).cell? ⟨w4.heap.size, 0, none⟩ = some (.int .i64 r) := dk0 Kx8.out
            have qx1 : (w8).cell? ⟨w4.heap.size, 1, none⟩ = some (.slice (some ⟨b1, o1, none⟩) n4 c4) := dk1 Kx8.out
            have qy0 : (w8).cell? ⟨w5.heap.size, 0, none⟩ = some (.int .i64 r) := dk0 Ky8.out
            have qy1 : (w8).cell? ⟨w5.heap.size, 1, none⟩ = some (.slice a5 n5 c5) := dk1 Ky8.out
            go_wp2_with fail
            refine (find_any r (some ⟨b1, o1, none⟩) n4 c4 other ya ga _ HDx8.out (by rw [HYA.out]; exact HGA2.out)).mono ?_
            rintro e w9 ⟨rfl, hb9⟩
            clear qd0 qd1 qx0 qx1 qy0 qy1
            have W9 := Lib.hid (W8.out.trans (hb9.mono W8.out.size))
            have Kd9 := Lib.hid (Kd8.out.on hb9)
            have Kx9 := Lib.hid (Kx8.out.on hb9)
            have Ky9 := Lib.hid (Ky8.out.on hb9)
            have HDx9 := Lib.hid (HDx8.out.below hb9)
            have HDy9 := Lib.hid (HDy8.out.below hb9)
            clear hb9
            have qd0 : (w9).cell? ⟨w.heap.size, 0, none⟩ = some (.int .i64 r) := dk0 Kd9.out
            have qd1 : (w9).cell? ⟨w.heap.size, 1, none⟩ = some (.slice a n c) := dk1 Kd9.out
            have qx0 : (w9).cell? ⟨w4.heap.size, 0, none⟩ = some (.int .i64 r) := dk0 Kx9.out
            have qx1 : (w9).cell? ⟨w4.heap.size, 1, none⟩ = some (.slice (some ⟨b1, o1, none⟩) n4 c4) := dk1 Kx9.out
            have qy0 : (w9).cell? ⟨w5.heap.size, 0, none⟩ = some (.int .i64 r) := dk0 Ky9.out
            have qy1 : (w9).cell? ⟨w5.heap.size, 1, none⟩ = some (.slice a5 n5 c5) := dk1 Ky9.out
            go_wp2_with fail
            refine (find_any r a5 n5 c5 other yb gb _ HDy9.out (by rw [HYB.out]; exact HGB2.out)).mono ?_
            rintro e w10 ⟨rfl, hb10⟩
            clear qd0 qd1 qx0 qx1 qy0 qy1
            have W10 := Lib.hid (W9.out.trans (hb10.mono W9.out.size))
            have Kd10 := Lib.hid (Kd9.out.on hb10)
            have Kx10 := Lib.hid (Kx9.out.on hb10)
            have Ky10 := Lib.hid (Ky9.out.on hb10)
            have HDx10 := Lib.hid (HDx9.out.below hb10)
            have HDy10 := Lib.hid (HDy9.out.below hb10)
            clear hb10
            have qd0 : (w10).cell? ⟨w.heap.size, 0, none⟩ = some (.int .i64 r) := dk0 Kd10.out
            have qd1 : (w10).cell? ⟨w.heap.size, 1, none⟩ = some (.slice a n c) := dk1 Kd10.out
            have qx0 : (w10).cell? ⟨w4.heap.size, 0, none⟩ = some (.int .i64 r) := dk0 Kx10.out
            have qx1 : (w10).cell? ⟨w4.heap.size, 1, none⟩ = some (.slice (some ⟨b1, o1, none⟩) n4 c4) := dk1 Kx10.out
            have qy0 : (w10).cell? ⟨w5.heap.size, 0, none⟩ = some (.int .i64 r) := dk0 Ky10.out
            have qy1 : (w10).cell? ⟨w5.heap.size, 1, none⟩ = some (.slice a5 n5 c5) := dk1 Ky10.out
            go_wp2
            go_ret
            exact ⟨rfl, W10.out⟩
        · have ee : (ed == 0) = true := by rw [hde.1]; rfl
          obtain ⟨hd0, hlb, hfn, hfb⟩ := hde
          subst hfb
          subst hd0
          have dfn : decide (0 ≤ fn) = true := by simpa using hfn
          clear hfn
          by_cases ho : other = no
          · have eo : (other == no) = true := by simpa using ho
            clear ho
            go_enter Try.func8, Try.ntmps8
            go_wp2_with fail
            refine (awake_any (dbox w r a n c)).mono ?_
            rintro e w1 ⟨rfl, hb1⟩
            have W1 := Lib.hid (HBX.out.trans (hb1.mono HBX.out.size))
            have Kd1 : Hid (Blok w1 (w.heap.size) 24 #[.int .i64 r, .slice a n c]) := Lib.hid ((dbox_blok w r a n c).on hb1)
            clear hb1
            have qd0 : (w1).cell? ⟨w.heap.size, 0, none⟩ = some (.int .i64 r) := dk0 Kd1.out
            have qd1 : (w1).cell? ⟨w.heap.size, 1, none⟩ = some (.slice a n c) := dk1 Kd1.out
            go_wp2_with fail
            refine (few_any r a n c xs true _ (HD.out.below W1.out) HF.out).mono ?_
            rintro e w2 ⟨rfl, hb2⟩
            clear qd0 qd1
            have W2 := Lib.hid (W1.out.trans (hb2.mono W1.out.size))
            have Kd2 := Lib.hid (Kd1.out.on hb2)
            clear hb2
            have qd0 : (w2).cell? ⟨w.heap.size, 0, none⟩ = some (.int .i64 r) := dk0 Kd2.out
            have qd1 : (w2).cell? ⟨w.heap.size, 1, none⟩ = some (.slice a n c) := dk1 Kd2.out
            go_wp2_with fail
            refine (may_any r a n c xs true _ (HD.out.below W2.out) HM.out).mono ?_
            rintro e w3 ⟨rfl, hb3⟩
            clear qd0 qd1
            have W3 := Lib.hid (W2.out.trans (hb3.mono W2.out.size))
            have Kd3 := Lib.hid (Kd2.out.on hb3)
            clear hb3
            have qd0 : (w3).cell? ⟨w.heap.size, 0, none⟩ = some (.int .i64 r) := dk0 Kd3.out
            have qd1 : (w3).cell? ⟨w.heap.size, 1, none⟩ = some (.slice a n c) := dk1 Kd3.out
            go_wp2_with fail
            refine (make_any r a n c no xs _ (HD.out.below W3.out) HSM.out).mono ?_
            rw [HQ.out]
            rintro e w4 ⟨a4, n4, c4, ya, rfl, HE4, HYA, _, hb4⟩
            clear qd0 qd1
            have hx4 := dbox_below w4 r a4 n4 c4
            have W4 := Lib.hid ((W3.out.trans (hb4.mono W3.out.size)).trans (hx4.mono (W3.out.trans (hb4.mono W3.out.size)).size))
            have Pd4 := Kd3.out.on hb4
            have Kd4 := Lib.hid (Pd4.on hx4)
            have HDx4 := Lib.hid (HE4.out.below hx4)
            have Kx4 := Lib.hid (dbox_blok w4 r a4 n4 c4)
            have qd0 : ∀ o, (w4.alloc o).cell? ⟨w.heap.size, 0, none⟩ = some (.int .i64 r) := fun o => dk0 (Pd4.alloc o)
            have qd1 : ∀ o, (w4.alloc o).cell? ⟨w.heap.size, 1, none⟩ = some (.slice a n c) := fun o => dk1 (Pd4.alloc o)
            clear hb4 hx4 Pd4
            go_wp2_with fail
            refine (drop_any r a n c no xs _ (HD.out.below W4.out) HSM.out).mono ?_
            rw [HR.out]
            rintro e w5 ⟨a5, n5, c5, yb, rfl, HE5, HYB, _, hb5⟩
            clear qd0 qd1
            have hx5 := dbox_below w5 r a5 n5 c5
            have W5 := Lib.hid ((W4.out.trans (hb5.mono W4.out.size)).trans (hx5.mono (W4.out.trans (hb5.mono W4.out.size)).size))
            have Pd5 := Kd4.out.on hb5
            have Px5 := Kx4.out.on hb5
            have Kd5 := Lib.hid (Pd5.on hx5)
            have Kx5 := Lib.hid (Px5.on hx5)
            have HDx5 := Lib.hid ((HDx4.out.below hb5).below hx5)
            have HDy5 := Lib.hid (HE5.out.below hx5)
            have Ky5 := Lib.hid (dbox_blok w5 r a5 n5 c5)
            have qd0 : ∀ o, (w5.alloc o).cell? ⟨w.heap.size, 0, none⟩ = some (.int .i64 r) := fun o => dk0 (Pd5.alloc o)
            have qd1 : ∀ o, (w5.alloc o).cell? ⟨w.heap.size, 1, none⟩ = some (.slice a n c) := fun o => dk1 (Pd5.alloc o)
            have qx0 : ∀ o, (w5.alloc o).cell? ⟨w4.heap.size, 0, none⟩ = some (.int .i64 r) := fun o => dk0 (Px5.alloc o)
            have qx1 : ∀ o, (w5.alloc o).cell? ⟨w4.heap.size, 1, none⟩ = some (.slice a4 n4 c4) := fun o => dk1 (Px5.alloc o)
            clear hb5 hx5 Pd5 Px5
            go_wp2_with fail
            refine (find_any r a4 n4 c4 no ya fa _ HDx5.out (by rw [HYA.out]; exact HFA.out)).mono ?_
            rintro e w6 ⟨rfl, hb6⟩
            clear qd0 qd1 qx0 qx1
            have W6 := Lib.hid (W5.out.trans (hb6.mono W5.out.size))
            have Kd6 := Lib.hid (Kd5.out.on hb6)
            have Kx6 := Lib.hid (Kx5.out.on hb6)
            have Ky6 := Lib.hid (Ky5.out.on hb6)
            have HDx6 := Lib.hid (HDx5.out.below hb6)
            have HDy6 := Lib.hid (HDy5.out.below hb6)
            clear hb6
            have qd0 : (w6).cell? ⟨w.heap.size, 0, none⟩ = some (.int .i64 r) := dk0 Kd6.out
            have qd1 : (w6).cell? ⟨w.heap.size, 1, none⟩ = some (.slice a n c) := dk1 Kd6.out
            have qx0 : (w6).cell? ⟨w4.heap.size, 0, none⟩ = some (.int .i64 r) := dk0 Kx6.out
            have qx1 : (w6).cell? ⟨w4.heap.size, 1, none⟩ = some (.slice a4 n4 c4) := dk1 Kx6.out
            have qy0 : (w6).cell? ⟨w5.heap.size, 0, none⟩ = some (.int .i64 r) := dk0 Ky6.out
            have qy1 : (w6).cell? ⟨w5.heap.size, 1, none⟩ = some (.slice a5 n5 c5) := dk1 Ky6.out
            have hnx : ya.length = n4 := HDx6.out.1
            obtain ⟨i, hfi, hil, hig⟩ := hi
            have hix : i < ya.length := by have h1 := HYA.out; have h2 := congrArg List.length h1; rw [FP.files_len] at h2; omega
            obtain ⟨b1, o1, no1, a1, n1, c1, B1, s1, he1, hb1, hx1, p0, p1, p2, hok1⟩ := (HDx6.out.2.1).at (i := i) hix
            have hB1 : B1 = [] := by
              have h1 := FP.files_at hx1
              rw [HYA.out, hig] at h1
              simp only [FP.file, Prod.mk.injEq] at h1
              exact h1.2.1.symm
            have hn1 : n1 = 0 := by have h1 := hok1.1; rw [hB1] at h1; simpa using h1.symm
            have hcx := HDx6.out.caps
            have hi1 : ¬ n4 ≤ i := by omega
            have hi2 : i < n4 := by omega
            have hlx : (((n4 : Nat) : Int) != (n : Int) + 1) = false := by
              have h1 := HXN.out
              have h2 := congrArg List.length HYA.out
              rw [FP.files_len] at h2
              simp
              omega
            subst hn1
            subst he1
            subst hfi
            clear hB1 hok1 hx1 hil hig hix hnx hb1 hal
            go_wp2_with fail
            refine (find_any r a5 n5 c5 no yb (-1) _ HDy6.out (by rw [HYB.out]; exact HFB.out)).mono ?_
            rintro e w7 ⟨rfl, hb7⟩
            clear qd0 qd1 qx0 qx1 qy0 qy1
            have W7 := Lib.hid (W6.out.trans (hb7.mono W6.out.size))
            have Kd7 := Lib.hid (Kd6.out.on hb7)
            have Kx7 := Lib.hid (Kx6.out.on hb7)
            have Ky7 := Lib.hid (Ky6.out.on hb7)
            have HDx7 := Lib.hid (HDx6.out.below hb7)
            have HDy7 := Lib.hid (HDy6.out.below hb7)
            clear hb7
            have qd0 : (w7).cell? ⟨w.heap.size, 0, none⟩ = some (.int .i64 r) := dk0 Kd7.out
            have qd1 : (w7).cell? ⟨w.heap.size, 1, none⟩ = some (.slice a n c) := dk1 Kd7.out
            have qx0 : (w7).cell? ⟨w4.heap.size, 0, none⟩ = some (.int .i64 r) := dk0 Kx7.out
            have qx1 : (w7).cell? ⟨w4.heap.size, 1, none⟩ = some (.slice (some ⟨b1, o1, none⟩) n4 c4) := dk1 Kx7.out
            have qy0 : (w7).cell? ⟨w5.heap.size, 0, none⟩ = some (.int .i64 r) := dk0 Ky7.out
            have qy1 : (w7).cell? ⟨w5.heap.size, 1, none⟩ = some (.slice a5 n5 c5) := dk1 Ky7.out
            have hly : (((n5 : Nat) : Int) != (n : Int) - 1) = false := by
              have h1 := HXN.out
              have h2 := congrArg List.length HYB.out
              have h3 := HDy7.out.1
              rw [FP.files_len] at h2
              simp
              omega
            go_wp2_with fail
            refine (find_any r a n c other xs fo _ (HD.out.below W7.out) HFO.out).mono ?_
            rintro e w8 ⟨rfl, hb8⟩
            clear qd0 qd1 qx0 qx1 qy0 qy1
            have W8 := Lib.hid (W7.out.trans (hb8.mono W7.out.size))
            have Kd8 := Lib.hid (Kd7.out.on hb8)
            have Kx8 := Lib.hid (Kx7.out.on hb8)
            have Ky8 := Lib.hid (Ky7.out.on hb8)
            have HDx8 := Lib.hid (HDx7.out.below hb8)
            have HDy8 := Lib.hid (HDy7.out.below hb8)
            clear hb8
            have qd0 : (w8).cell? ⟨w.heap.size, 0, none⟩ = some (.int .i64 r) := dk0 Kd8.out
            have qd1 : (w8).cell? ⟨w.heap.size, 1, none⟩ = some (.slice a n c) := dk1 Kd8.out
            have qx0 : (w8).cell? ⟨w4.heap.size, 0, none⟩ = some (.int .i64 r) := dk0 Kx8.out
            have qx1 : (w8).cell? ⟨w4.heap.size, 1, none⟩ = some (.slice (some ⟨b1, o1, none⟩) n4 c4) := dk1 Kx8.out
            have qy0 : (w8).cell? ⟨w5.heap.size, 0, none⟩ = some (.int .i64 r) := dk0 Ky8.out
            have qy1 : (w8).cell? ⟨w5.heap.size, 1, none⟩ = some (.slice a5 n5 c5) := dk1 Ky8.out
            go_wp2_with fail
            refine (find_any r a n c no xs fn _ (HD.out.below W8.out) HFN.out).mono ?_
            rintro e w9 ⟨rfl, hb9⟩
            clear qd0 qd1 qx0 qx1 qy0 qy1
            have W9 := Lib.hid (W8.out.trans (hb9.mono W8.out.size))
            have Kd9 := Lib.hid (Kd8.out.on hb9)
            have Kx9 := Lib.hid (Kx8.out.on hb9)
            have Ky9 := Lib.hid (Ky8.out.on hb9)
            have HDx9 := Lib.hid (HDx8.out.below hb9)
            have HDy9 := Lib.hid (HDy8.out.below hb9)
            clear hb9
            have qd0 : (w9).cell? ⟨w.heap.size, 0, none⟩ = some (.int .i64 r) := dk0 Kd9.out
            have qd1 : (w9).cell? ⟨w.heap.size, 1, none⟩ = some (.slice a n c) := dk1 Kd9.out
            have qx0 : (w9).cell? ⟨w4.heap.size, 0, none⟩ = some (.int .i64 r) := dk0 Kx9.out
            have qx1 : (w9).cell? ⟨w4.heap.size, 1, none⟩ = some (.slice (some ⟨b1, o1, none⟩) n4 c4) := dk1 Kx9.out
            have qy0 : (w9).cell? ⟨w5.heap.size, 0, none⟩ = some (.int .i64 r) := dk0 Ky9.out
            have qy1 : (w9).cell? ⟨w5.heap.size, 1, none⟩ = some (.slice a5 n5 c5) := dk1 Ky9.out
            go_wp2
            go_ret
            exact ⟨rfl, W9.out⟩
          · have eo : (other == no) = false := by simpa using ho
            have dga := HGA.out ho
            have dgb := HGB.out ho
            clear ho
            go_enter Try.func8, Try.ntmps8
            go_wp2_with fail
            refine (awake_any (dbox w r a n c)).mono ?_
            rintro e w1 ⟨rfl, hb1⟩
            have W1 := Lib.hid (HBX.out.trans (hb1.mono HBX.out.size))
            have Kd1 : Hid (Blok w1 (w.heap.size) 24 #[.int .i64 r, .slice a n c]) := Lib.hid ((dbox_blok w r a n c).on hb1)
            clear hb1
            have qd0 : (w1).cell? ⟨w.heap.size, 0, none⟩ = some (.int .i64 r) := dk0 Kd1.out
            have qd1 : (w1).cell? ⟨w.heap.size, 1, none⟩ = some (.slice a n c) := dk1 Kd1.out
            go_wp2_with fail
            refine (few_any r a n c xs true _ (HD.out.below W1.out) HF.out).mono ?_
            rintro e w2 ⟨rfl, hb2⟩
            clear qd0 qd1
            have W2 := Lib.hid (W1.out.trans (hb2.mono W1.out.size))
            have Kd2 := Lib.hid (Kd1.out.on hb2)
            clear hb2
            have qd0 : (w2).cell? ⟨w.heap.size, 0, none⟩ = some (.int .i64 r) := dk0 Kd2.out
            have qd1 : (w2).cell? ⟨w.heap.size, 1, none⟩ = some (.slice a n c) := dk1 Kd2.out
            go_wp2_with fail
            refine (may_any r a n c xs true _ (HD.out.below W2.out) HM.out).mono ?_
            rintro e w3 ⟨rfl, hb3⟩
            clear qd0 qd1
            have W3 := Lib.hid (W2.out.trans (hb3.mono W2.out.size))
            have Kd3 := Lib.hid (Kd2.out.on hb3)
            clear hb3
            have qd0 : (w3).cell? ⟨w.heap.size, 0, none⟩ = some (.int .i64 r) := dk0 Kd3.out
            have qd1 : (w3).cell? ⟨w.heap.size, 1, none⟩ = some (.slice a n c) := dk1 Kd3.out
            go_wp2_with fail
            refine (make_any r a n c no xs _ (HD.out.below W3.out) HSM.out).mono ?_
            rw [HQ.out]
            rintro e w4 ⟨a4, n4, c4, ya, rfl, HE4, HYA, _, hb4⟩
            clear qd0 qd1
            have hx4 := dbox_below w4 r a4 n4 c4
            have W4 := Lib.hid ((W3.out.trans (hb4.mono W3.out.size)).trans (hx4.mono (W3.out.trans (hb4.mono W3.out.size)).size))
            have Pd4 := Kd3.out.on hb4
            have Kd4 := Lib.hid (Pd4.on hx4)
            have HDx4 := Lib.hid (HE4.out.below hx4)
            have Kx4 := Lib.hid (dbox_blok w4 r a4 n4 c4)
            have qd0 : ∀ o, (w4.alloc o).cell? ⟨w.heap.size, 0, none⟩ = some (.int .i64 r) := fun o => dk0 (Pd4.alloc o)
            have qd1 : ∀ o, (w4.alloc o).cell? ⟨w.heap.size, 1, none⟩ = some (.slice a n c) := fun o => dk1 (Pd4.alloc o)
            clear hb4 hx4 Pd4
            go_wp2_with fail
            refine (drop_any r a n c no xs _ (HD.out.below W4.out) HSM.out).mono ?_
            rw [HR.out]
            rintro e w5 ⟨a5, n5, c5, yb, rfl, HE5, HYB, _, hb5⟩
            clear qd0 qd1
            have hx5 := dbox_below w5 r a5 n5 c5
            have W5 := Lib.hid ((W4.out.trans (hb5.mono W4.out.size)).trans (hx5.mono (W4.out.trans (hb5.mono W4.out.size)).size))
            have Pd5 := Kd4.out.on hb5
            have Px5 := Kx4.out.on hb5
            have Kd5 := Lib.hid (Pd5.on hx5)
            have Kx5 := Lib.hid (Px5.on hx5)
            have HDx5 := Lib.hid ((HDx4.out.below hb5).below hx5)
            have HDy5 := Lib.hid (HE5.out.below hx5)
            have Ky5 := Lib.hid (dbox_blok w5 r a5 n5 c5)
            have qd0 : ∀ o, (w5.alloc o).cell? ⟨w.heap.size, 0, none⟩ = some (.int .i64 r) := fun o => dk0 (Pd5.alloc o)
            have qd1 : ∀ o, (w5.alloc o).cell? ⟨w.heap.size, 1, none⟩ = some (.slice a n c) := fun o => dk1 (Pd5.alloc o)
            have qx0 : ∀ o, (w5.alloc o).cell? ⟨w4.heap.size, 0, none⟩ = some (.int .i64 r) := fun o => dk0 (Px5.alloc o)
            have qx1 : ∀ o, (w5.alloc o).cell? ⟨w4.heap.size, 1, none⟩ = some (.slice a4 n4 c4) := fun o => dk1 (Px5.alloc o)
            clear hb5 hx5 Pd5 Px5
            go_wp2_with fail
            refine (find_any r a4 n4 c4 no ya fa _ HDx5.out (by rw [HYA.out]; exact HFA.out)).mono ?_
            rintro e w6 ⟨rfl, hb6⟩
            clear qd0 qd1 qx0 qx1
            have W6 := Lib.hid (W5.out.trans (hb6.mono W5.out.size))
            have Kd6 := Lib.hid (Kd5.out.on hb6)
            have Kx6 := Lib.hid (Kx5.out.on hb6)
            have Ky6 := Lib.hid (Ky5.out.on hb6)
            have HDx6 := Lib.hid (HDx5.out.below hb6)
            have HDy6 := Lib.hid (HDy5.out.below hb6)
            clear hb6
            have qd0 : (w6).cell? ⟨w.heap.size, 0, none⟩ = some (.int .i64 r) := dk0 Kd6.out
            have qd1 : (w6).cell? ⟨w.heap.size, 1, none⟩ = some (.slice a n c) := dk1 Kd6.out
            have qx0 : (w6).cell? ⟨w4.heap.size, 0, none⟩ = some (.int .i64 r) := dk0 Kx6.out
            have qx1 : (w6).cell? ⟨w4.heap.size, 1, none⟩ = some (.slice a4 n4 c4) := dk1 Kx6.out
            have qy0 : (w6).cell? ⟨w5.heap.size, 0, none⟩ = some (.int .i64 r) := dk0 Ky6.out
            have qy1 : (w6).cell? ⟨w5.heap.size, 1, none⟩ = some (.slice a5 n5 c5) := dk1 Ky6.out
            have hnx : ya.length = n4 := HDx6.out.1
            obtain ⟨i, hfi, hil, hig⟩ := hi
            have hix : i < ya.length := by have h1 := HYA.out; have h2 := congrArg List.length h1; rw [FP.files_len] at h2; omega
            obtain ⟨b1, o1, no1, a1, n1, c1, B1, s1, he1, hb1, hx1, p0, p1, p2, hok1⟩ := (HDx6.out.2.1).at (i := i) hix
            have hB1 : B1 = [] := by
              have h1 := FP.files_at hx1
              rw [HYA.out, hig] at h1
              simp only [FP.file, Prod.mk.injEq] at h1
              exact h1.2.1.symm
            have hn1 : n1 = 0 := by have h1 := hok1.1; rw [hB1] at h1; simpa using h1.symm
            have hcx := HDx6.out.caps
            have hi1 : ¬ n4 ≤ i := by omega
            have hi2 : i < n4 := by omega
            have hlx : (((n4 : Nat) : Int) != (n : Int) + 1) = false := by
              have h1 := HXN.out
              have h2 := congrArg List.length HYA.out
              rw [FP.files_len] at h2
              simp
              omega
            subst hn1
            subst he1
            subst hfi
            clear hB1 hok1 hx1 hil hig hix hnx hb1 hal
            go_wp2_with fail
            refine (find_any r a5 n5 c5 no yb (-1) _ HDy6.out (by rw [HYB.out]; exact HFB.out)).mono ?_
            rintro e w7 ⟨rfl, hb7⟩
            clear qd0 qd1 qx0 qx1 qy0 qy1
            have W7 := Lib.hid (W6.out.trans (hb7.mono W6.out.size))
            have Kd7 := Lib.hid (Kd6.out.on hb7)
            have Kx7 := Lib.hid (Kx6.out.on hb7)
            have Ky7 := Lib.hid (Ky6.out.on hb7)
            have HDx7 := Lib.hid (HDx6.out.below hb7)
            have HDy7 := Lib.hid (HDy6.out.below hb7)
            clear hb7
            have qd0 : (w7).cell? ⟨w.heap.size, 0, none⟩ = some (.int .i64 r) := dk0 Kd7.out
            have qd1 : (w7).cell? ⟨w.heap.size, 1, none⟩ = some (.slice a n c) := dk1 Kd7.out
            have qx0 : (w7).cell? ⟨w4.heap.size, 0, none⟩ = some (.int .i64 r) := dk0 Kx7.out
            have qx1 : (w7).cell? ⟨w4.heap.size, 1, none⟩ = some (.slice (some ⟨b1, o1, none⟩) n4 c4) := dk1 Kx7.out
            have qy0 : (w7).cell? ⟨w5.heap.size, 0, none⟩ = some (.int .i64 r) := dk0 Ky7.out
            have qy1 : (w7).cell? ⟨w5.heap.size, 1, none⟩ = some (.slice a5 n5 c5) := dk1 Ky7.out
            have hly : (((n5 : Nat) : Int) != (n : Int) - 1) = false := by
              have h1 := HXN.out
              have h2 := congrArg List.length HYB.out
              have h3 := HDy7.out.1
              rw [FP.files_len] at h2
              simp
              omega
            go_wp2_with fail
            refine (find_any r a n c other xs fo _ (HD.out.below W7.out) HFO.out).mono ?_
            rintro e w8 ⟨rfl, hb8⟩
            clear qd0 qd1 qx0 qx1 qy0 qy1
            have W8 := Lib.hid (W7.out.trans (hb8.mono W7.out.size))
            have Kd8 := Lib.hid (Kd7.out.on hb8)
            have Kx8 := Lib.hid (Kx7.out.on hb8)
            have Ky8 := Lib.hid (Ky7.out.on hb8)
            have HDx8 := Lib.hid (HDx7.out.below hb8)
            have HDy8 := Lib.hid (HDy7.out.below hb8)
            clear hb8
            have qd0 : (w8).cell? ⟨w.heap.size, 0, none⟩ = some (.int .i64 r) := dk0 Kd8.out
            have qd1 : (w8).cell? ⟨w.heap.size, 1, none⟩ = some (.slice a n c) := dk1 Kd8.out
            have qx0 : (w8).cell? ⟨w4.heap.size, 0, none⟩ = some (.int .i64 r) := dk0 Kx8.out
            have qx1 : (w8).cell? ⟨w4.heap.size, 1, none⟩ = some (.slice (some ⟨b1, o1, none⟩) n4 c4) := dk1 Kx8.out
            have qy0 : (w8).cell? ⟨w5.heap.size, 0, none⟩ = some (.int .i64 r) := dk0 Ky8.out
            have qy1 : (w8).cell? ⟨w5.heap.size, 1, none⟩ = some (.slice a5 n5 c5) := dk1 Ky8.out
            go_wp2_with fail
            refine (find_any r a n c no xs fn _ (HD.out.below W8.out) HFN.out).mono ?_
            rintro e w9 ⟨rfl, hb9⟩
            clear qd0 qd1 qx0 qx1 qy0 qy1
            have W9 := Lib.hid (W8.out.trans (hb9.mono W8.out.size))
            have Kd9 := Lib.hid (Kd8.out.on hb9)
            have Kx9 := Lib.hid (Kx8.out.on hb9)
            have Ky9 := Lib.hid (Ky8.out.on hb9)
            have HDx9 := Lib.hid (HDx8.out.below hb9)
            have HDy9 := Lib.hid (HDy8.out.below hb9)
            clear hb9
            have qd0 : (w9).cell? ⟨w.heap.size, 0, none⟩ = some (.int .i64 r) := dk0 Kd9.out
            have qd1 : (w9).cell? ⟨w.heap.size, 1, none⟩ = some (.slice a n c) := dk1 Kd9.out
            have qx0 : (w9).cell? ⟨w4.heap.size, 0, none⟩ = some (.int .i64 r) := dk0 Kx9.out
            have qx1 : (w9).cell? ⟨w4.heap.size, 1, none⟩ = some (.slice (some ⟨b1, o1, none⟩) n4 c4) := dk1 Kx9.out
            have qy0 : (w9).cell? ⟨w5.heap.size, 0, none⟩ = some (.int .i64 r) := dk0 Ky9.out
            have qy1 : (w9).cell? ⟨w5.heap.size, 1, none⟩ = some (.slice a5 n5 c5) := dk1 Ky9.out
            go_wp2_with fail
            refine (find_any r (some ⟨b1, o1, none⟩) n4 c4 other ya ga _ HDx9.out (by rw [HYA.out]; exact HGA2.out)).mono ?_
            rintro e w10 ⟨rfl, hb10⟩
            clear qd0 qd1 qx0 qx1 qy0 qy1
            have W10 := Lib.hid (W9.out.trans (hb10.mono W9.out.size))
            have Kd10 := Lib.hid (Kd9.out.on hb10)
            have Kx10 := Lib.hid (Kx9.out.on hb10)
            have Ky10 := Lib.hid (Ky9.out.on hb10)
            have HDx10 := Lib.hid (HDx9.out.below hb10)
            have HDy10 := Lib.hid (HDy9.out.below hb10)
            clear hb10
            have qd0 : (w10).cell? ⟨w.heap.size, 0, none⟩ = some (.int .i64 r) := dk0 Kd10.out
            have qd1 : (w10).cell? ⟨w.heap.size, 1, none⟩ = some (.slice a n c) := dk1 Kd10.out
            have qx0 : (w10).cell? ⟨w4.heap.size, 0, none⟩ = some (.int .i64 r) := dk0 Kx10.out
            have qx1 : (w10).cell? ⟨w4.heap.size, 1, none⟩ = some (.slice (some ⟨b1, o1, none⟩) n4 c4) := dk1 Kx10.out
            have qy0 : (w10).cell? ⟨w5.heap.size, 0, none⟩ = some (.int .i64 r) := dk0 Ky10.out
            have qy1 : (w10).cell? ⟨w5.heap.size, 1, none⟩ = some (.slice a5 n5 c5) := dk1 Ky10.out
            go_wp2_with fail
            refine (find_any r a5 n5 c5 other yb gb _ HDy10.out (by rw [HYB.out]; exact HGB2.out)).mono ?_
            rintro e w11 ⟨rfl, hb11⟩
            clear qd0 qd1 qx0 qx1 qy0 qy1
            have W11 := Lib.hid (W10.out.trans (hb11.mono W10.out.size))
            have Kd11 := Lib.hid (Kd10.out.on hb11)
            have Kx11 := Lib.hid (Kx10.out.on hb11)
            have Ky11 := Lib.hid (Ky10.out.on hb11)
            have HDx11 := Lib.hid (HDx10.out.below hb11)
            have HDy11 := Lib.hid (HDy10.out.below hb11)
            clear hb11
            have qd0 : (w11).cell? ⟨w.heap.size, 0, none⟩ = some (.int .i64 r) := dk0 Kd11.out
            have qd1 : (w11).cell? ⟨w.heap.size, 1, none⟩ = some (.slice a n c) := dk1 Kd11.out
            have qx0 : (w11).cell? ⟨w4.heap.size, 0, none⟩ = some (.int .i64 r) := dk0 Kx11.out
            have qx1 : (w11).cell? ⟨w4.heap.size, 1, none⟩ = some (.slice (some ⟨b1, o1, none⟩) n4 c4) := dk1 Kx11.out
            have qy0 : (w11).cell? ⟨w5.heap.size, 0, none⟩ = some (.int .i64 r) := dk0 Ky11.out
            have qy1 : (w11).cell? ⟨w5.heap.size, 1, none⟩ = some (.slice a5 n5 c5) := dk1 Ky11.out
            go_wp2
            go_ret
            exact ⟨rfl, W11.out⟩
    · have HF := Lib.hid (decide_eq_true hf)
      have HM := Lib.hid (decide_eq_false hm)
      clear hd hf hm
      go_enter Try.func8, Try.ntmps8
      go_wp2_with fail
      refine (awake_any (dbox w k a n c)).mono ?_
      rintro e w1 ⟨rfl, hb1⟩
      have W1 := Lib.hid (HBX.out.trans (hb1.mono HBX.out.size))
      have Kd1 : Hid (Blok w1 (w.heap.size) 24 #[.int .i64 k, .slice a n c]) := Lib.hid ((dbox_blok w k a n c).on hb1)
      clear hb1
      have qd0 : (w1).cell? ⟨w.heap.size, 0, none⟩ = some (.int .i64 k) := dk0 Kd1.out
      have qd1 : (w1).cell? ⟨w.heap.size, 1, none⟩ = some (.slice a n c) := dk1 Kd1.out
      go_wp2_with fail
      refine (few_any k a n c xs true _ (HD.out.below W1.out) HF.out).mono ?_
      rintro e w2 ⟨rfl, hb2⟩
      clear qd0 qd1
      have W2 := Lib.hid (W1.out.trans (hb2.mono W1.out.size))
      have Kd2 := Lib.hid (Kd1.out.on hb2)
      clear hb2
      have qd0 : (w2).cell? ⟨w.heap.size, 0, none⟩ = some (.int .i64 k) := dk0 Kd2.out
      have qd1 : (w2).cell? ⟨w.heap.size, 1, none⟩ = some (.slice a n c) := dk1 Kd2.out
      go_wp2_with fail
      refine (may_any k a n c xs false _ (HD.out.below W2.out) HM.out).mono ?_
      rintro e w3 ⟨rfl, hb3⟩
      clear qd0 qd1
      have W3 := Lib.hid (W2.out.trans (hb3.mono W2.out.size))
      have Kd3 := Lib.hid (Kd2.out.on hb3)
      clear hb3
      have qd0 : (w3).cell? ⟨w.heap.size, 0, none⟩ = some (.int .i64 k) := dk0 Kd3.out
      have qd1 : (w3).cell? ⟨w.heap.size, 1, none⟩ = some (.slice a n c) := dk1 Kd3.out
      go_wp2
      go_ret
      exact ⟨rfl, W3.out⟩
  · have HF := Lib.hid (decide_eq_false hf)
    clear hd hf
    go_enter Try.func8, Try.ntmps8
    go_wp2_with fail
    refine (awake_any (dbox w k a n c)).mono ?_
    rintro e w1 ⟨rfl, hb1⟩
    have W1 := Lib.hid (HBX.out.trans (hb1.mono HBX.out.size))
    have Kd1 : Hid (Blok w1 (w.heap.size) 24 #[.int .i64 k, .slice a n c]) := Lib.hid ((dbox_blok w k a n c).on hb1)
    clear hb1
    have qd0 : (w1).cell? ⟨w.heap.size, 0, none⟩ = some (.int .i64 k) := dk0 Kd1.out
    have qd1 : (w1).cell? ⟨w.heap.size, 1, none⟩ = some (.slice a n c) := dk1 Kd1.out
    go_wp2_with fail
    refine (few_any k a n c xs false _ (HD.out.below W1.out) HF.out).mono ?_
    rintro e w2 ⟨rfl, hb2⟩
    clear qd0 qd1
    have W2 := Lib.hid (W1.out.trans (hb2.mono W1.out.size))
    have Kd2 := Lib.hid (Kd1.out.on hb2)
    clear hb2
    have qd0 : (w2).cell? ⟨w.heap.size, 0, none⟩ = some (.int .i64 k) := dk0 Kd2.out
    have qd1 : (w2).cell? ⟨w.heap.size, 1, none⟩ = some (.slice a n c) := dk1 Kd2.out
    go_wp2
    go_ret
    exact ⟨rfl, W2.out⟩
end Go.Proofs.Ytcabhibbajkpkaa
