/-
  Walks of the document's Digits, Text, TextAll, at every address and every prefix.
-/
import Derived.Test.YtbaneeedoledoaaDoorAText
import Derived.Test.YtbaneeedoledoaaDoorARefPre
namespace Go.Proofs.YtbaneeedoledoaaDoor
open Go.RowKit

/-- The string of one byte that has just been laid. -/
theorem conv_one (W : World) (x : Int) (d : Nat) (hx : x = (48 + d : Nat)) (hd : d < 10) :
    (convert 56 9 (.slice (some ⟨W.heap.size, 0, none⟩) 1 1)).run Tryd.prog (W.alloc (.cells #[.int .u8 x] 5)) = .ok (.string (str [UInt8.ofNat (48 + d)])) (W.alloc (.cells #[.int .u8 x] 5)) := by
  subst hx
  have hr : RowIn .u8 (W.alloc (.cells #[.int .u8 ((48 + d : Nat) : Int)] 5)) (some ⟨W.heap.size, 0, none⟩) 1 [((48 + d : Nat) : Int)] :=
    Blok.row (Blok.new W 5 #[.int .u8 ((48 + d : Nat) : Int)]) (by intro n hn; rw [List.mem_singleton.1 hn]; simp [Lit.wf, IntKind.min, IntKind.max, IntKind.bits, IntKind.signed]; omega) (by simp) (by simp [maxLen])
  have := conv_row hr rfl
  exact this

set_option maxHeartbeats 400000 in
theorem digits_any (n : Nat) (hn : n < 1000) (w : World) :
    Calls Tryd.prog 37 #[.int .i64 n] w fun e w' => e = .returned (.string (str (A.dg n))) ∧ Below w.heap.size w w' := by
  have HN := Lib.hid (A.dg_len hn).2
  go_enter Tryd.func37, Tryd.ntmps37
  go_wp2_with fail
  go_loopg [0, 3] n (fun g i s wr => ∃ (m : Nat) (t : List UInt8), i = .int .i64 m ∧ s = .string (str t) ∧ Hid (m = g) ∧ m < 1000 ∧ Hid (A.dg m ++ t = A.dg n) ∧ Hid (Below w.heap.size w wr))
  case atStart => exact ⟨n, [], rfl, rfl, Lib.hid rfl, by omega, Lib.hid (by simp), Lib.hid (Below.refl _ _)⟩
  case round =>
    obtain ⟨m, t, rfl, rfl, HG, hmn, HT, HB⟩ := hrel
    have hsz : (str t).size ≤ 3 := by
      have := congrArg List.length HT.out
      have h2 := HN.out
      rw [List.length_append] at this
      rw [str_size]; omega
    have hB2 : ∀ o, Below w.heap.size w (wr.alloc o) := fun o => HB.out.alloc HB.out.size o
    have HB2 := Lib.hid hB2
    clear hB2
    by_cases hlt : 10 ≤ m
    · have d1 : decide (10 ≤ (m : Int)) = true := by simp; omega
      have hc := conv_one wr (48 + (m : Int) % 10) (m % 10) (by omega) (by omega)
      obtain ⟨c, hcs⟩ : ∃ c, str [UInt8.ofNat (48 + m % 10)] = c := ⟨_, rfl⟩
      rw [hcs] at hc
      have hcz : c.size ≤ 1 := by rw [← hcs]; exact Nat.le_refl 1
      have HCS := Lib.hid hcs
      clear hcs
      have HT2 : Hid (A.dg (m / 10) ++ (UInt8.ofNat (48 + m % 10) :: t) = A.dg n) := Lib.hid (by
        have h := HT.out
        rw [A.dg_ge hlt] at h
        simpa using h)
      go_wp2
      go_roundg (m / 10)
      case rel => exact ⟨m / 10, UInt8.ofNat (48 + m % 10) :: t, by go_num, by rw [← HCS.out, str_append]; rfl, Lib.hid rfl, by omega, HT2, Lib.hid (HB2.out _)⟩
      case measure => have := HG.out; omega
    · have d1 : decide (10 ≤ (m : Int)) = false := by simp; omega
      have hc := conv_one wr (48 + (m : Int)) m (by omega) (by omega)
      obtain ⟨c, hcs⟩ : ∃ c, str [UInt8.ofNat (48 + m)] = c := ⟨_, rfl⟩
      rw [hcs] at hc
      have hcz : c.size ≤ 1 := by rw [← hcs]; exact Nat.le_refl 1
      have HCS := Lib.hid hcs
      clear hcs
      have HT2 : Hid (c ++ str t = str (A.dg n)) := Lib.hid (by
        have h := HT.out
        rw [A.dg_lt (by omega)] at h
        rw [← HCS.out, str_append, h])
      go_wp2
      go_ret
      exact ⟨by rw [← HT2.out]; rfl, HB2.out _⟩

theorem A.text_parts (n : Nat) : A.text n = A.dg (n / 16777216) ++ [46] ++ A.dg (n / 65536 % 256) ++ [46] ++ A.dg (n / 256 % 256) ++ [46] ++ A.dg (n % 256) := by
  unfold A.text
  generalize A.dg (n / 16777216) = p
  generalize A.dg (n / 65536 % 256) = q
  generalize A.dg (n / 256 % 256) = r
  generalize A.dg (n % 256) = t
  simp

theorem digits_at {x : Int} (n : Nat) (hx : x = n) (hn : n < 1000) (w : World) :
    Calls Tryd.prog 37 #[.int .i64 x] w fun e w' => e = .returned (.string (str (A.dg n))) ∧ Below w.heap.size w w' := by
  subst hx; exact digits_any n hn w

set_option maxHeartbeats 800000 in
theorem refText_any (a : Int) (s : List UInt8) (w : World) (hs : A.txt a = s) :
    Calls Tryd.prog 26 #[.int .i64 a] w fun e w' => e = .returned (.string (str s)) ∧ Below w.heap.size w w' := by
  have HS := Lib.hid hs
  clear hs
  by_cases h0 : a < 0
  · have d0 : decide (a < 0) = true := decide_eq_true h0
    have HF : Hid (s = []) := Lib.hid (by rw [← HS.out]; unfold A.txt; rw [if_neg (by omega)])
    go_enter Tryd.func26, Tryd.ntmps26
    go_wp2
    go_ret
    exact ⟨by rw [HF.out]; rfl, Below.refl _ _⟩
  · have d0 : decide (a < 0) = false := decide_eq_false h0
    by_cases h1 : a < 4294967296
    · have d1 : decide (4294967296 ≤ a) = false := decide_eq_false (by omega)
      obtain ⟨n, rfl, hn, ht⟩ := A.txt_of (b := a) (by omega) h1
      have HF : Hid (str s = str (A.dg (n / 16777216)) ++ str [46] ++ str (A.dg (n / 65536 % 256)) ++ str [46] ++ str (A.dg (n / 256 % 256)) ++ str [46] ++ str (A.dg (n % 256))) := Lib.hid (by
        rw [← HS.out, ht]
        simp only [str_append]
        rw [A.text_parts])
      have c1 := digits_at (x := (n : Int) / 16777216) (n / 16777216) (by rw [Int.natCast_ediv]; rfl) (by omega)
      have c2 := digits_at (x := (n : Int) / 65536 % 256) (n / 65536 % 256) (by rw [Int.natCast_emod, Int.natCast_ediv]; rfl) (by omega)
      have c3 := digits_at (x := (n : Int) / 256 % 256) (n / 256 % 256) (by rw [Int.natCast_emod, Int.natCast_ediv]; rfl) (by omega)
      have c4 := digits_at (x := (n : Int) % 256) (n % 256) (by rw [Int.natCast_emod]; rfl) (by omega)
      have l1 : (str (A.dg (n / 16777216))).size ≤ 3 := (A.dg_len (by omega)).2
      have l2 : (str (A.dg (n / 65536 % 256))).size ≤ 3 := (A.dg_len (by omega)).2
      have l3 : (str (A.dg (n / 256 % 256))).size ≤ 3 := (A.dg_len (by omega)).2
      have l4 : (str (A.dg (n % 256))).size ≤ 3 := (A.dg_len (by omega)).2
      generalize str (A.dg (n / 16777216)) = t1 at *
      generalize str (A.dg (n / 65536 % 256)) = t2 at *
      generalize str (A.dg (n / 256 % 256)) = t3 at *
      generalize str (A.dg (n % 256)) = t4 at *
      clear ht h0 h1
      go_enter Tryd.func26, Tryd.ntmps26
      go_wp2_with fail
      refine (c1 _).mono ?_
      rintro e w1 ⟨rfl, b1⟩
      go_wp2_with fail
      refine (c2 _).mono ?_
      rintro e w2 ⟨rfl, b2⟩
      go_wp2_with fail
      refine (c3 _).mono ?_
      rintro e w3 ⟨rfl, b3⟩
      go_wp2_with fail
      refine (c4 _).mono ?_
      rintro e w4 ⟨rfl, b4⟩
      have B2 := b1.trans (b2.mono b1.size)
      have B3 := B2.trans (b3.mono B2.size)
      have B4 := Lib.hid (B3.trans (b4.mono B3.size))
      clear b1 b2 b3 b4 B2 B3
      go_wp2
      go_ret
      exact ⟨by rw [HF.out]; rfl, B4.out⟩
    · have d1 : decide (4294967296 ≤ a) = true := decide_eq_true (by omega)
      have HF : Hid (s = []) := Lib.hid (by rw [← HS.out]; unfold A.txt; rw [if_neg (by omega)])
      go_enter Tryd.func26, Tryd.ntmps26
      go_wp2
      go_ret
      exact ⟨by rw [HF.out]; rfl, Below.refl _ _⟩

set_option maxHeartbeats 400000 in
theorem refTextAll_any (b k : Int) (s : List UInt8) (w : World) (hs : A.txtAll b k = s) :
    Calls Tryd.prog 28 #[.agg #[.int .i64 b, .int .i64 k]] w fun e w' => e = .returned (.string (str s)) ∧ Below w.heap.size w w' := by
  have HS := Lib.hid hs
  have HBX := Lib.hid (pbox_below w b k)
  have HBL := Lib.hid (pbox_blok w b k)
  clear hs
  cases hd : A.may b k
  · have HF : Hid (s = []) := Lib.hid (by rw [← HS.out]; unfold A.txtAll; rw [hd]; rfl)
    have hm := refMay7_any b k false (pbox w b k) hd
    clear hd
    go_enter Tryd.func28, Tryd.ntmps28
    go_wp2_with fail
    refine hm.mono ?_
    rintro e w1 ⟨rfl, hb1⟩
    go_wp2
    go_ret
    exact ⟨by rw [HF.out]; rfl, HBX.out.trans (hb1.mono (pbox_below w b k).size)⟩
  · have hm := refMay7_any b k true (pbox w b k) hd
    obtain ⟨n, j, hbn, hkj, hn, hj, ht, hta⟩ := A.txtAll_of hd
    have HF : Hid (s = A.text n ++ [47] ++ A.dg j) := Lib.hid (by rw [← HS.out, hta])
    have l1 : (str (A.text n)).size ≤ 15 := (A.text_len hn).2
    have l2 : (str (A.dg j)).size ≤ 3 := (A.dg_len (by omega)).2
    obtain ⟨t, htt⟩ : ∃ t, str (A.text n) = t := ⟨_, rfl⟩
    obtain ⟨u, htu⟩ : ∃ u, str (A.dg j) = u := ⟨_, rfl⟩
    have HF3 : Hid (str s = t ++ str [47] ++ u) := Lib.hid (by rw [HF.out, ← htt, ← htu, str_append, str_append])
    rw [htt] at l1
    rw [htu] at l2
    have ht1 : ∀ W, Calls Tryd.prog 26 #[.int .i64 b] W fun e w' => e = .returned (.string t) ∧ Below W.heap.size W w' := fun W => by rw [← htt]; exact refText_any b _ W ht
    have ht2 : ∀ W, Calls Tryd.prog 37 #[.int .i64 k] W fun e w' => e = .returned (.string u) ∧ Below W.heap.size W w' := fun W => by rw [← htu]; exact digits_at j hkj (by omega) W
    clear hd hbn hkj ht hta htt htu
    go_enter Tryd.func28, Tryd.ntmps28
    go_wp2_with fail
    refine hm.mono ?_
    rintro e w1 ⟨rfl, hb1⟩
    have k0 := pb0 (HBL.out.below hb1 HBL.out.lt)
    have k1 := pb1 (HBL.out.below hb1 HBL.out.lt)
    have c0 : ∀ d os, (Go.Sort.grow (redrawn w1 d) os).cell? ⟨w.heap.size, 0, none⟩ = some (.int .i64 b) := fun d os => cell_regrown k0 d os
    have c1 : ∀ d os, (Go.Sort.grow (redrawn w1 d) os).cell? ⟨w.heap.size, 1, none⟩ = some (.int .i64 k) := fun d os => cell_regrown k1 d os
    have HB1 := Lib.hid (HBX.out.trans (hb1.mono HBX.out.size))
    clear hb1 k0 k1
    go_wp2_with fail
    refine wp_region_quiet_below (by kernel_rfl) (by kernel_rfl) ?_
    repeat (go_big_quiet_step (first | exact Calls.regrown_of (ht1 _) | exact Calls.regrown_of (ht2 _)))
    refine wpQuiet_nil ?_
    intro _ hw'
    obtain ⟨⟨dq, osq⟩, hw''⟩ := hw'
    subst hw''
    go_wp2
    go_ret
    exact ⟨by rw [HF3.out]; rfl, HB1.out.trans ((below_regrown _ dq osq).mono HB1.out.size)⟩
end Go.Proofs.YtbaneeedoledoaaDoor
