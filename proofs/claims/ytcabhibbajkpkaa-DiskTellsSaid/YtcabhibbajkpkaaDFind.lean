/-
  Walks of moorings/disk.Used, place, sort.Search over it, Find, seek.
-/
import Derived.Test.YtcabhibbajkpkaaDMay
namespace Go.Proofs.Ytcabhibbajkpkaa
open Go.RowKit

theorem used_take {xs : List FP} {j : Nat} {x : FP} (h : xs[j]? = some x) : D.used (FP.files (xs.take (j + 1))) = D.used (FP.files (xs.take j)) + x.B.length := by
  obtain ⟨h1, h2⟩ := List.getElem?_eq_some_iff.1 h
  rw [List.take_succ_eq_append_getElem h1, FP.files_append, D.used_append, h2]
  simp [FP.files, FP.file, D.used]
theorem used_take_le (xs : List FP) (j : Nat) : D.used (FP.files (xs.take j)) ≤ D.used (FP.files xs) := by
  conv => rhs; rw [← List.take_append_drop j xs, FP.files_append, D.used_append]
  omega

set_option maxRecDepth 100000 in
set_option maxHeartbeats 400000 in
theorem used_any (k : Int) (a : Option Addr) (n c : Nat) (xs : List FP) (u : Int) (w : World) (hd : DiskIn w a n c xs) (hu : (if D.may (k, FP.files xs) then (D.used (FP.files xs) : Int) else 0) = u) :
    Calls Try.prog 23 #[.agg #[.int .i64 k, .slice a n c]] w fun e w' => e = .returned (.int .i64 u) ∧ Below w.heap.size w w' := by
  have HBX := Lib.hid (dbox_below w k a n c)
  have HD := Lib.hid hd
  have hcap := hd.caps
  have hml : maxLen ≤ 9223372036854775807 := by decide
  by_cases hm : D.may (k, FP.files xs)
  · have HM := Lib.hid (decide_eq_true hm)
    have HU : Hid ((D.used (FP.files xs) : Int) = u) := Lib.hid (by rw [← hu, if_pos hm])
    have hk1 : (D.used (FP.files xs) : Int) ≤ 65536 := by have h1 := hm.2.2.2; have h2 := hm.1.2.1; simp only at h1 h2; omega
    have HK := Lib.hid hk1
    clear hd hu hm hk1
    go_enter Try.func23, Try.ntmps23
    go_wp2_with fail
    refine (may_any k a n c xs true (dbox w k a n c) (HD.out.below (dbox_below w k a n c)) HM.out).mono ?_
    rintro e w1 ⟨rfl, hb1⟩
    have B1 := Lib.hid (HBX.out.trans (hb1.mono HBX.out.size))
    have KB := Lib.hid ((dbox_blok w k a n c).on hb1)
    clear hb1
    have k0 := dk0 KB.out
    have k1 := dk1 KB.out
    go_wp2_with fail
    go_loopw [3, 12] (fun y i wr => ∃ (j m : Nat), i = .int .i64 j ∧ y = .int .i64 m ∧ j ≤ n ∧ Hid (D.used (FP.files (xs.take j)) = m) ∧ Below w.heap.size w wr) (fun _ i _ => n - (intOf i).toNat)
    case atStart => exact ⟨0, 0, rfl, rfl, by omega, Lib.hid (by simp [FP.files, D.used]), B1.out⟩
    case round =>
      obtain ⟨j, m, rfl, rfl, hjn, HC, hB⟩ := hrel
      by_cases hlt : j < n
      · obtain ⟨b1, o1, no, a1, n1, c1, B1, s1, rfl, hb1, hx, p0, p1, p2, hok⟩ := ((HD.out.below hB).2.1).at (i := j) (by rw [HD.out.1]; exact hlt)
        have hs : D.used (FP.files (xs.take (j + 1))) = m + n1 := by rw [used_take hx, HC.out]; exact congrArg _ hok.1
        have hle := used_take_le xs (j + 1)
        have hu := HK.out
        have hmn : m + n1 ≤ 65536 := by omega
        have HS := Lib.hid hs
        have BB := Lib.hid (hB.trans (((Below.refl _ wr).alloc (Nat.le_refl _) (.cells #[.int .i64 no, .slice a1 n1 c1, .int .i64 s1] 43)).mono hB.size))
        have hw : IntKind.i64.wrap ((m : Int) + (n1 : Int)) = (m : Int) + (n1 : Int) := wrap_i64_small (by omega) (by omega)
        clear hx hok HC hs hle hu
        go_wp2
        go_roundw
        case rel => exact ⟨j + 1, m + n1, by go_num, by go_num, by omega, HS, BB.out⟩
        case measure => simp [intOf]; omega
      · have HE : Hid ((m : Int) = u) := Lib.hid (by
          have h := HC.out
          rw [List.take_of_length_le (by rw [HD.out.1]; omega)] at h
          rw [← HU.out, h])
        have hd : decide (j < n) = false := by simp; omega
        go_wp2
        go_ret
        exact ⟨by rw [← HE.out]; rfl, hB⟩
  · have HM := Lib.hid (decide_eq_false hm)
    have HU : Hid (u = 0) := Lib.hid (by rw [← hu, if_neg hm])
    clear hd hu hm
    go_enter Try.func23, Try.ntmps23
    go_wp2_with fail
    refine (may_any k a n c xs false (dbox w k a n c) (HD.out.below (dbox_below w k a n c)) HM.out).mono ?_
    rintro e w1 ⟨rfl, hb1⟩
    have B1 := Lib.hid (HBX.out.trans (hb1.mono HBX.out.size))
    clear hb1
    go_wp2
    go_ret
    exact ⟨by rw [HU.out]; rfl, B1.out⟩

theorem place1_any (i : Nat) (g0 g1 : Nat) (a : Option Addr) (n c : Nat) (no : Int) (xs : List FP) (b : Bool) (w : World) (hd : DiskIn w a n c xs) (hi : i < n) (h0 : w.cell? ⟨g0, 0, none⟩ = some (.slice a n c)) (h1 : w.cell? ⟨g1, 0, none⟩ = some (.int .i64 no)) (hb : decide (no ≤ ((FP.files xs).getD i D.nof).1) = b) :
    Calls Try.prog 52 #[.int .i64 i, .pointer (some ⟨g0, 0, none⟩), .pointer (some ⟨g1, 0, none⟩)] w fun e w' => e = .returned (.bool b) ∧ Below w.heap.size w w' := by
  obtain ⟨b1, o1, no1, a1, n1, c1, B1, s1, rfl, hb1, hx, p0, p1, p2, hok⟩ := hd.2.1.at (i := i) (by rw [hd.1]; exact hi)
  have hcap := hd.caps
  have hml : maxLen ≤ 9223372036854775807 := by decide
  rw [FP.files_at hx] at hb
  have HB : Hid (b = decide (no ≤ no1)) := Lib.hid (by rw [← hb]; rfl)
  clear hd hx hok hb
  go_enter Try.func52, Try.ntmps52
  go_wp2_with fail
  go_quiet (fail)
  go_wp2
  go_ret
  exact ⟨by rw [HB.out]; rfl, below_drewN _ _ _⟩

set_option maxRecDepth 100000 in
set_option maxHeartbeats 400000 in
theorem search_any (g0 g1 : Nat) (a : Option Addr) (n c : Nat) (no : Int) (xs : List FP) (w : World) (hs : D.sorted (FP.files xs)) (hd : DiskIn w a n c xs) (h9 : n ≤ 1000) (h0 : w.cell? ⟨g0, 0, none⟩ = some (.slice a n c)) (h1 : w.cell? ⟨g1, 0, none⟩ = some (.int .i64 no)) :
    Calls Try.prog 51 #[.int .i64 n, .func (.func 52) #[] #[.pointer (some ⟨g0, 0, none⟩), .pointer (some ⟨g1, 0, none⟩)]] w fun e w' => ∃ p : Nat, e = .returned (.int .i64 p) ∧ Hid (D.isPlace (FP.files xs) no p) ∧ Below w.heap.size w w' := by
  have hg0 : g0 < w.heap.size := World.block_lt_of_cell? (a := ⟨g0, 0, none⟩) _ h0
  have hg1 : g1 < w.heap.size := World.block_lt_of_cell? (a := ⟨g1, 0, none⟩) _ h1
  have HS := Lib.hid hs
  have HD := Lib.hid hd
  have HL : Hid ((FP.files xs).length = n) := Lib.hid (by rw [FP.files_len, hd.1])
  have H0 := Lib.hid h0
  have H1 := Lib.hid h1
  clear hs hd h0 h1
  go_enter Try.func51, Try.ntmps51
  go_wp2_with fail
  go_loopw [5, 6] (fun x y wr => ∃ (i j : Nat), x = .int .i64 i ∧ y = .int .i64 j ∧ i ≤ j ∧ j ≤ n ∧ Hid (∀ k, k < i → ((FP.files xs).getD k D.nof).1 < no) ∧ Hid (∀ k, j ≤ k → k < n → no ≤ ((FP.files xs).getD k D.nof).1) ∧ Below w.heap.size w wr) (fun x y _ => (intOf y).toNat - (intOf x).toNat)
  case atStart => exact ⟨0, n, rfl, rfl, by omega, by omega, Lib.hid (fun k hk => by omega), Lib.hid (fun k h1 h2 => by omega), Below.refl _ _⟩
  case round =>
    obtain ⟨i, j, rfl, rfl, hij, hjn, HLo, HHi, hB⟩ := hrel
    by_cases hlt : i < j
    · obtain ⟨h, hh⟩ : ∃ h, h = (i + j) / 2 := ⟨_, rfl⟩
      have hb1 : i ≤ h ∧ h < j := by omega
      obtain ⟨b, hb⟩ : ∃ b, decide (no ≤ ((FP.files xs).getD h D.nof).1) = b := ⟨_, rfl⟩
      have HBb := Lib.hid hb
      have he : ((i : Int) + (j : Int)) / 2 = (h : Int) := by omega
      clear hb hh
      go_wp2_with fail
      refine (place1_any h g0 g1 a n c no xs b wr (HD.out.below hB) (by omega) ((hB.cell (p := ⟨g0, 0, none⟩) hg0).trans H0.out) ((hB.cell (p := ⟨g1, 0, none⟩) hg1).trans H1.out) HBb.out).mono ?_
      rintro e w2 ⟨rfl, hb2⟩
      have B2 := Lib.hid (hB.trans (hb2.mono hB.size))
      clear hb2
      cases b with
      | false =>
        have HLo2 : Hid (∀ k, k < h + 1 → ((FP.files xs).getD k D.nof).1 < no) := Lib.hid (fun k hk => by
          have h1 := of_decide_eq_false HBb.out
          by_cases h2 : k = h
          · subst h2; omega
          · have h3 : ((FP.files xs).getD k D.nof).1 < ((FP.files xs).getD h D.nof).1 := D.sorted_lt HS.out (by omega) (by rw [HL.out]; omega)
            omega)
        go_wp2
        go_roundw
        case rel => exact ⟨h + 1, j, by go_num, rfl, by omega, by omega, HLo2, HHi, B2.out⟩
        case measure => simp [intOf]; omega
      | true =>
        have HHi2 : Hid (∀ k, h ≤ k → k < n → no ≤ ((FP.files xs).getD k D.nof).1) := Lib.hid (fun k hk hk2 => by
          have h1 := of_decide_eq_true HBb.out
          by_cases h2 : k = h
          · subst h2; omega
          · have h3 : ((FP.files xs).getD h D.nof).1 < ((FP.files xs).getD k D.nof).1 := D.sorted_lt HS.out (by omega) (by rw [HL.out]; omega)
            omega)
        go_wp2
        go_roundw
        case rel => exact ⟨i, h, rfl, rfl, by omega, by omega, HLo, HHi2, B2.out⟩
        case measure => simp [intOf]; omega
    · obtain rfl : i = j := by omega
      have hd : decide (i < i) = false := by simp
      have HP : Hid (D.isPlace (FP.files xs) no i) := Lib.hid ⟨by rw [HL.out]; exact hjn, HLo.out, fun k h1 h2 => HHi.out k h1 (by rw [HL.out] at h2; exact h2)⟩
      go_wp2
      go_ret
      exact ⟨i, rfl, HP, hB⟩

theorem place_any (a : Option Addr) (n c : Nat) (no : Int) (xs : List FP) (w : World) (hs : D.sorted (FP.files xs)) (hd : DiskIn w a n c xs) (h9 : n ≤ 1000) :
    Calls Try.prog 41 #[.slice a n c, .int .i64 no] w fun e w' => ∃ p : Nat, e = .returned (.int .i64 p) ∧ Hid (D.isPlace (FP.files xs) no p) ∧ Below w.heap.size w w' := by
  have HS := Lib.hid hs
  have HD := Lib.hid hd
  clear hs hd
  go_enter Try.func41, Try.ntmps41
  go_wp2_with fail
  have hb0 : Below w.heap.size w (w.alloc (.cells #[.slice a n c] 22)) := (Below.refl _ w).alloc (Nat.le_refl _) _
  have hb : Below w.heap.size w ((w.alloc (.cells #[.slice a n c] 22)).alloc (.cells #[.int .i64 no] 3)) := hb0.alloc (by simp) _
  have hz : (w.alloc (.cells #[.slice a n c] 22)).heap.size = w.heap.size + 1 := by simp
  refine (search_any w.heap.size (w.heap.size + 1) a n c no xs _ HS.out (HD.out.below hb) h9 (((Blok.new w 22 #[.slice a n c]).alloc _).cell 0) (by rw [← hz]; exact (Blok.new (w.alloc (.cells #[.slice a n c] 22)) 3 #[.int .i64 no]).cell 0)).mono ?_
  rintro e w1 ⟨p, rfl, HP, hb1⟩
  have B1 := Lib.hid (hb.trans (hb1.mono hb.size))
  clear hb1 hb hb0 hz
  go_wp2
  go_ret
  exact ⟨p, rfl, HP, B1.out⟩

/-- What Find returns: as the document's. -/
theorem find_no {xs : List FP} {k no : Int} (h : ¬ D.may (k, FP.files xs)) : D.find (k, FP.files xs) no = -1 := by unfold D.find; rw [if_neg h]

set_option maxRecDepth 100000 in
set_option maxHeartbeats 400000 in
theorem find_any (k : Int) (a : Option Addr) (n c : Nat) (no : Int) (xs : List FP) (r : Int) (w : World) (hd : DiskIn w a n c xs) (hr : D.find (k, FP.files xs) no = r) :
    Calls Try.prog 21 #[.agg #[.int .i64 k, .slice a n c], .int .i64 no] w fun e w' => e = .returned (.int .i64 r) ∧ Below w.heap.size w w' := by
  have HBX := Lib.hid (dbox_below w k a n c)
  have HD := Lib.hid hd
  have hcap := hd.caps
  have hml : maxLen ≤ 9223372036854775807 := by decide
  by_cases hm : D.may (k, FP.files xs)
  · have HM := Lib.hid (decide_eq_true hm)
    have HS : Hid (D.sorted (FP.files xs)) := Lib.hid hm.2.2.1
    have h12 : n ≤ 1000 := by have h1 := hm.1.2.2; simp only [FP.files_len, hd.1] at h1; omega
    have HR : Hid ((match D.idx (FP.files xs) no with | some i => (i : Int) | none => -1) = r) := Lib.hid (by rw [← hr]; unfold D.find; rw [if_pos hm]; cases D.idx (FP.files xs) no <;> rfl)
    have HL : Hid ((FP.files xs).length = n) := Lib.hid (by rw [FP.files_len, hd.1])
    clear hd hr hm
    go_enter Try.func21, Try.ntmps21
    go_wp2_with fail
    refine (may_any k a n c xs true (dbox w k a n c) (HD.out.below (dbox_below w k a n c)) HM.out).mono ?_
    rintro e w1 ⟨rfl, hb1⟩
    have B1 := Lib.hid (HBX.out.trans (hb1.mono HBX.out.size))
    have KB := Lib.hid ((dbox_blok w k a n c).on hb1)
    clear hb1
    have k1 := dk1 KB.out
    go_wp2_with fail
    refine (place_any a n c no xs w1 HS.out (HD.out.below B1.out) h12).mono ?_
    rintro e w2 ⟨p, rfl, HP, hb2⟩
    have B2 := Lib.hid (B1.out.trans (hb2.mono B1.out.size))
    have KB2 := Lib.hid (KB.out.on hb2)
    clear hb2 k1
    have k1 := dk1 KB2.out
    have hp := HP.out.1
    rw [HL.out] at hp
    by_cases hpn : p = n
    · subst hpn
      have HF : Hid (r = -1) := Lib.hid (by
        rw [← HR.out, D.idx_place HS.out HP.out, if_neg (by rw [HL.out]; omega)])
      go_wp2
      go_ret
      exact ⟨by rw [HF.out]; rfl, B2.out⟩
    · obtain ⟨b1, o1, no1, a1, n1, c1, B1', s1, rfl, hb1, hx, p0, p1, p2, hok⟩ := ((HD.out.below B2.out).2.1).at (i := p) (by rw [HD.out.1]; omega)
      have hlt : p < n := by omega
      have hne : ((p : Int) == (n : Int)) = false := by simp; omega
      have hfx := FP.files_at hx
      by_cases hno : no1 = no
      · subst hno
        have HF : Hid (r = (p : Int)) := Lib.hid (by
          rw [← HR.out, D.idx_place HS.out HP.out, if_pos ⟨by rw [HL.out]; exact hlt, by rw [hfx]; rfl⟩])
        clear hx hok hfx p1 p2
        go_wp2
        go_ret
        exact ⟨by rw [HF.out]; rfl, B2.out⟩
      · have HF : Hid (r = -1) := Lib.hid (by
          rw [← HR.out, D.idx_place HS.out HP.out, if_neg (by rw [hfx]; exact fun h => hno h.2)])
        have hnn : (no1 != no) = true := by simp [hno]
        clear hx hok hfx p1 p2
        go_wp2
        go_ret
        exact ⟨by rw [HF.out]; rfl, B2.out⟩
  · have HM := Lib.hid (decide_eq_false hm)
    have HF : Hid (r = -1) := Lib.hid (by rw [← hr, find_no hm])
    clear hd hr hm
    go_enter Try.func21, Try.ntmps21
    go_wp2_with fail
    refine (may_any k a n c xs false (dbox w k a n c) (HD.out.below (dbox_below w k a n c)) HM.out).mono ?_
    rintro e w1 ⟨rfl, hb1⟩
    have B1 := Lib.hid (HBX.out.trans (hb1.mono HBX.out.size))
    clear hb1
    go_wp2
    go_ret
    exact ⟨by rw [HF.out]; rfl, B1.out⟩

/-- Where a file is that is to be changed, or why it can't be. -/
def seekOf (d : D.T) (no : Int) : Int × Int := if D.may d then (match D.idx d.2 no with | some i => ((i : Int), 0) | none => (0, 5)) else (0, 1)

set_option maxRecDepth 100000 in
theorem seek_any (k : Int) (a : Option Addr) (n c : Nat) (no : Int) (xs : List FP) (i e0 : Int) (w : World) (hd : DiskIn w a n c xs) (hr : seekOf (k, FP.files xs) no = (i, e0)) :
    Calls Try.prog 45 #[.agg #[.int .i64 k, .slice a n c], .int .i64 no] w fun e w' => e = .returned (.tuple #[.int .i64 i, .int .i64 e0]) ∧ Below w.heap.size w w' := by
  have HBX := Lib.hid (dbox_below w k a n c)
  have HD := Lib.hid hd
  obtain ⟨f, hf⟩ : ∃ f, D.find (k, FP.files xs) no = f := ⟨_, rfl⟩
  obtain ⟨m, hm⟩ : ∃ m, decide (D.may (k, FP.files xs)) = m := ⟨_, rfl⟩
  have HF := Lib.hid hf
  have HM := Lib.hid hm
  have HR : Hid ((m = false ∧ i = 0 ∧ e0 = 1) ∨ (m = true ∧ f < 0 ∧ i = 0 ∧ e0 = 5) ∨ (m = true ∧ ¬ f < 0 ∧ i = f ∧ e0 = 0)) := Lib.hid (by
    unfold seekOf at hr
    unfold D.find at hf
    by_cases h : D.may (k, FP.files xs)
    · rw [if_pos h] at hr hf
      have hm' : m = true := by rw [← hm]; exact decide_eq_true h
      cases hi : D.idx (FP.files xs) no with
      | none => simp only [hi] at hr hf; simp only [Prod.mk.injEq] at hr; exact .inr (.inl ⟨hm', by omega, hr.1.symm, hr.2.symm⟩)
      | some j => simp only [hi] at hr hf; simp only [Prod.mk.injEq] at hr; exact .inr (.inr ⟨hm', by omega, by omega, hr.2.symm⟩)
    · rw [if_neg h] at hr hf
      simp only [Prod.mk.injEq] at hr
      exact .inl ⟨by rw [← hm]; exact decide_eq_false h, hr.1.symm, hr.2.symm⟩)
  clear hd hr hf hm
  go_enter Try.func45, Try.ntmps45
  go_wp2_with fail
  refine (find_any k a n c no xs f (dbox w k a n c) (HD.out.below (dbox_below w k a n c)) HF.out).mono ?_
  rintro e w1 ⟨rfl, hb1⟩
  have B1 := Lib.hid (HBX.out.trans (hb1.mono HBX.out.size))
  have KB := Lib.hid ((dbox_blok w k a n c).on hb1)
  clear hb1
  have k0 := dk0 KB.out
  have k1 := dk1 KB.out
  go_wp2_with fail
  refine (may_any k a n c xs m w1 (HD.out.below B1.out) HM.out).mono ?_
  rintro e w2 ⟨rfl, hb2⟩
  have B2 := Lib.hid (B1.out.trans (hb2.mono B1.out.size))
  clear hb2 k0 k1
  rcases HR.out with ⟨rfl, rfl, rfl⟩ | ⟨rfl, hf, rfl, rfl⟩ | ⟨rfl, hf, rfl, rfl⟩
  · go_wp2
    go_ret2
    exact ⟨rfl, B2.out⟩
  · have d1 : decide (f < 0) = true := by simp; omega
    go_wp2
    go_ret2
    exact ⟨rfl, B2.out⟩
  · have d1 : decide (i < 0) = false := by simp; omega
    go_wp2
    go_ret2
    exact ⟨rfl, B2.out⟩
end Go.Proofs.Ytcabhibbajkpkaa
