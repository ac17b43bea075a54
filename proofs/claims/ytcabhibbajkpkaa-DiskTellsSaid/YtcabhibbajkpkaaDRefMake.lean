/-
  A walk of the document's Make.
-/
import Derived.Test.YtcabhibbajkpkaaDRefWrite
import Derived.Test.YtcabhibbajkpkaaDMake
namespace Go.Proofs.Ytcabhibbajkpkaa
open Go.RowKit

theorem FP.files_filter (p : D.F → Bool) (xs : List FP) : FP.files (xs.filter (fun x => p x.file)) = (FP.files xs).filter p := by
  unfold FP.files
  rw [List.filter_map]
  rfl
theorem filter_take_step {α : Type} (p : α → Bool) {xs : List α} {j : Nat} {x : α} (h : xs[j]? = some x) : (xs.take (j + 1)).filter p = (xs.take j).filter p ++ (if p x = true then [x] else []) := by
  obtain ⟨h1, h2⟩ := List.getElem?_eq_some_iff.1 h
  rw [List.take_succ_eq_append_getElem h1, h2, List.filter_append, List.filter_cons, List.filter_nil]
theorem filter_take_len {α : Type} (p : α → Bool) (xs : List α) (j : Nat) : ((xs.take j).filter p).length ≤ j := by
  have h1 := List.length_filter_le p (xs.take j)
  have h2 := List.length_take_le j xs
  omega
/-- What the loops keep: the slice grows by those of a class. -/
structure MInv (w : World) (B : Nat) (x0 : World) (v : Value) (zs : List FP) (wr : World) : Prop where
  own : wr.ownsRow B 43 3 v zs.length (FP.flat zs)
  below : Below x0.heap.size x0 wr
  base : B ≤ wr.heap.size
  xb : B = x0.heap.size
theorem MInv.app {w x0 wr w' : World} {B : Nat} {v v' : Value} {zs : List FP} {y : FP} {o : Obj} (h : MInv w B x0 v zs wr) (ho : w'.ownsRow B 43 3 v' (zs.length + 1) (FP.flat (zs ++ [y]))) (hg : (wr.alloc o).grownBy w' v.ownBlock) : MInv w B x0 v' (zs ++ [y]) w' := by
  have h1 := h.below.alloc h.below.size o
  refine ⟨by rw [List.length_append]; exact ho, h1.grown hg h1.size (fun k ek => ?_), ?_, h.xb⟩
  · rw [← h.xb]; exact (h.own.lt k ek).1
  · obtain ⟨_, _, _, h2, _⟩ := hg
    have h3 := h.base
    simp at h2
    omega

set_option maxRecDepth 100000 in
set_option maxHeartbeats 400000 in
theorem refMake_any (P : Nat → Prop) (k : Int) (a : Option Addr) (n c : Nat) (no : Int) (xs : List FP) (w : World) (hd : DiskIn w a n c xs) (hs : D.small (FP.files xs)) (hP : ∀ b, b < w.heap.size → P b → Far b a xs) :
    Calls Try.prog 31 #[.agg #[.int .i64 k, .slice a n c], .int .i64 no] w (RetE P (D.make (k, FP.files xs) no) w) := by
  have HD := Lib.hid hd
  have HS := Lib.hid hs
  have HFA := Lib.hid (far_all hd hP)
  have hcap := hd.caps
  have hml : maxLen ≤ 9223372036854775807 := by decide
  have KA := Lib.hid (dbn_arg w k a n c)
  have KR := Lib.hid (dbn_res w k a n c)
  have X0 : Hid (Below (dbn w k a n c).heap.size (dbn w k a n c) (dbn w k a n c)) := Lib.hid (Below.refl _ _)
  have h14 : n ≤ 14 := by have h1 := hs.1; simp only [FP.files_len, hd.1] at h1; exact h1
  clear hP
  by_cases hm : D.may (k, FP.files xs)
  · have HM := Lib.hid (decide_eq_true hm)
    by_cases hn : 1 ≤ no ∧ no ≤ 1073741824
    · have d1 : decide (no < 1) = false := by simp; omega
      have d2 : decide (1073741824 < no) = false := by simp; omega
      obtain ⟨f, hff⟩ : ∃ f, D.find (k, FP.files xs) no = f := ⟨_, rfl⟩
      have HF := Lib.hid hff
      obtain ⟨bi, hbi⟩ : ∃ b, (D.idx (FP.files xs) no).isSome = b := ⟨_, rfl⟩
      have HFI := Lib.hid hbi
      have HFN : Hid ((bi = true ∧ 0 ≤ f) ∨ (bi = false ∧ f < 0)) := Lib.hid (by
        unfold D.find at hff
        rw [if_pos hm] at hff
        rw [← hbi]
        cases hi : D.idx (FP.files xs) no with
        | none => simp only [hi] at hff; exact .inr ⟨rfl, by omega⟩
        | some j => simp only [hi] at hff; exact .inl ⟨rfl, by omega⟩)
      clear hff hbi
      by_cases hf : bi = true
      · have HU : Hid (D.make (k, FP.files xs) no = ((k, FP.files xs), 11)) := Lib.hid (by
          unfold D.make
          rw [if_pos ⟨hm, hn⟩]
          simp only
          rw [HFI.out, if_pos hf])
        have e1 : decide (0 ≤ f) = true := by rcases HFN.out with ⟨h1, h2⟩ | ⟨h1, h2⟩ <;> simp_all
        clear hd hs hm hn hf
        go_enter Try.func31, Try.ntmps31
        go_wp2_with fail
        refine (refMay_any k a n c xs true (dbn w k a n c) (HD.out.below (dbn_on X0.out)) HS.out HM.out).mono ?_
        rintro e w1 ⟨rfl, hb1⟩
        have X1 := Lib.hid (X0.out.trans (hb1.mono X0.out.size))
        have KA1 := Lib.hid ((dbn_arg w k a n c).on X1.out)
        have KR1 := Lib.hid ((dbn_res w k a n c).on X1.out)
        clear hb1
        have k0 := dk0 KA1.out
        have k1 := dk1 KA1.out
        go_wp2_with fail
        refine (refFind_any k a n c no xs f w1 (HD.out.below (dbn_on X1.out)) HS.out HF.out).mono ?_
        rintro e w2 ⟨rfl, hb2⟩
        have X2 := Lib.hid (X1.out.trans (hb2.mono X1.out.size))
        have KA2 := Lib.hid ((dbn_arg w k a n c).on X2.out)
        have KR2 := Lib.hid ((dbn_res w k a n c).on X2.out)
        clear hb2 k0 k1
        have k0 := dk0 KA2.out
        have k1 := dk1 KA2.out
        have hfar : Far (w.heap.size + 1) a xs := HFA.out _ (.inr (by omega))
        have r0 := dk0 KR2.out
        have r1 := dk1 KR2.out
        have f0 := KR2.out.frozen 0
        have f1 := KR2.out.frozen 1
        go_wp2
        refine bodyPost_ret (ret_disk2 (x := .int .i64 11) (g := w.heap.size + 1) rfl k a n c (by kernel_rfl) (by kernel_rfl) KR2.out.put) (by kernel_rfl) ?_
        exact ⟨a, n, c, xs, by rw [HU.out], Lib.hid (((HD.out.below (dbn_on X2.out)).set hfar 0 _).set hfar 1 _), Lib.hid (by rw [HU.out]), Lib.hid fun b hb hp => HFA.out b (.inl hp), below_store (dbn_on X2.out) (Nat.le_succ _) _ _ _ _⟩
      · by_cases h12 : n = 12
        · have HU : Hid (D.make (k, FP.files xs) no = ((k, FP.files xs), 9)) := Lib.hid (by
            unfold D.make
            rw [if_pos ⟨hm, hn⟩]
            simp only
            rw [HFI.out, if_neg hf, if_pos (by rw [FP.files_len, HD.out.1, h12])])
          have e1 : decide (0 ≤ f) = false := by rcases HFN.out with ⟨h1, h2⟩ | ⟨h1, h2⟩ <;> simp_all
          have e2 : ((n : Int) == 12) = true := by simp; omega
          clear hd hs hm hn hf h12
          go_enter Try.func31, Try.ntmps31
          go_wp2_with fail
          refine (refMay_any k a n c xs true (dbn w k a n c) (HD.out.below (dbn_on X0.out)) HS.out HM.out).mono ?_
          rintro e w1 ⟨rfl, hb1⟩
          have X1 := Lib.hid (X0.out.trans (hb1.mono X0.out.size))
          have KA1 := Lib.hid ((dbn_arg w k a n c).on X1.out)
          have KR1 := Lib.hid ((dbn_res w k a n c).on X1.out)
          clear hb1
          have k0 := dk0 KA1.out
          have k1 := dk1 KA1.out
          go_wp2_with fail
          refine (refFind_any k a n c no xs f w1 (HD.out.below (dbn_on X1.out)) HS.out HF.out).mono ?_
          rintro e w2 ⟨rfl, hb2⟩
          have X2 := Lib.hid (X1.out.trans (hb2.mono X1.out.size))
          have KA2 := Lib.hid ((dbn_arg w k a n c).on X2.out)
          have KR2 := Lib.hid ((dbn_res w k a n c).on X2.out)
          clear hb2 k0 k1
          have k0 := dk0 KA2.out
          have k1 := dk1 KA2.out
          have hfar : Far (w.heap.size + 1) a xs := HFA.out _ (.inr (by omega))
          have r0 := dk0 KR2.out
          have r1 := dk1 KR2.out
          have f0 := KR2.out.frozen 0
          have f1 := KR2.out.frozen 1
          go_wp2
          refine bodyPost_ret (ret_disk2 (x := .int .i64 9) (g := w.heap.size + 1) rfl k a n c (by kernel_rfl) (by kernel_rfl) KR2.out.put) (by kernel_rfl) ?_
          exact ⟨a, n, c, xs, by rw [HU.out], Lib.hid (((HD.out.below (dbn_on X2.out)).set hfar 0 _).set hfar 1 _), Lib.hid (by rw [HU.out]), Lib.hid fun b hb hp => HFA.out b (.inl hp), below_store (dbn_on X2.out) (Nat.le_succ _) _ _ _ _⟩
        · have HU : Hid (D.make (k, FP.files xs) no = ((k, (FP.files xs).filter (fun f => decide (f.1 < no)) ++ (no, [], 0) :: (FP.files xs).filter (fun f => decide (no < f.1))), 0)) := Lib.hid (by
            unfold D.make
            rw [if_pos ⟨hm, hn⟩]
            simp only
            rw [HFI.out, if_neg hf, if_neg (by rw [FP.files_len, HD.out.1]; exact h12)])
          have e1 : decide (0 ≤ f) = false := by rcases HFN.out with ⟨h1, h2⟩ | ⟨h1, h2⟩ <;> simp_all
          have e2 : ((n : Int) == 12) = false := by simp; omega
          clear hd hs hm hn hf h12
          go_enter Try.func31, Try.ntmps31
          go_wp2_with fail
          refine (refMay_any k a n c xs true (dbn w k a n c) (HD.out.below (dbn_on X0.out)) HS.out HM.out).mono ?_
          rintro e w1 ⟨rfl, hb1⟩
          have X1 := Lib.hid (X0.out.trans (hb1.mono X0.out.size))
          have KA1 := Lib.hid ((dbn_arg w k a n c).on X1.out)
          have KR1 := Lib.hid ((dbn_res w k a n c).on X1.out)
          clear hb1
          have k0 := dk0 KA1.out
          have k1 := dk1 KA1.out
          go_wp2_with fail
          refine (refFind_any k a n c no xs f w1 (HD.out.below (dbn_on X1.out)) HS.out HF.out).mono ?_
          rintro e w2 ⟨rfl, hb2⟩
          have X2 := Lib.hid (X1.out.trans (hb2.mono X1.out.size))
          have KA2 := Lib.hid ((dbn_arg w k a n c).on X2.out)
          have KR2 := Lib.hid ((dbn_res w k a n c).on X2.out)
          clear hb2 k0 k1
          have k0 := dk0 KA2.out
          have k1 := dk1 KA2.out
          go_wp2_with fail
          have hsz := dbn_lt X2.out
          obtain ⟨x0, hx0⟩ : ∃ x0, x0 = w2 := ⟨_, rfl⟩
          obtain ⟨B, hB⟩ : ∃ B, B = x0.heap.size := ⟨_, rfl⟩
          have BX : Hid (Below w.heap.size w x0) := Lib.hid (by rw [hx0]; exact dbn_on X2.out)
          have KB : Hid (Blok x0 w.heap.size 24 #[.int .i64 k, .slice a n c]) := Lib.hid (by rw [hx0]; exact KA2.out)
          have KRB : Hid (Blok x0 (w.heap.size + 1) 24 #[.int .i64 0, .slice none 0 0]) := Lib.hid (by rw [hx0]; exact KR2.out)
          have hBw : w.heap.size + 1 < B := by rw [hB, hx0]; exact hsz
          have HI0 : Hid (MInv w B x0 (.slice none 0 0) ((xs.take 0).filter (fun x : FP => decide (x.no < no))) w2) := Lib.hid ⟨World.ownsRow_nil _ _ _ _, by rw [hx0]; exact Below.refl _ _, by rw [hB, hx0]; exact Nat.le_refl _, hB⟩
          clear hx0 hB hsz k0 k1 X1 X2 KA1 KA2 KR1 KR2
          go_loopg [7, 8] n (fun g q i wr => ∃ (j : Nat) (v : Value), v = q ∧ i = .int .i64 j ∧ j + g = n ∧ Hid (MInv w B x0 v ((xs.take j).filter (fun x : FP => decide (x.no < no))) wr))
          case atStart => exact ⟨0, _, rfl, rfl, by omega, HI0⟩
          case round =>
            obtain ⟨j, v, rfl, rfl, hjn, HI⟩ := hrel
            have XR := Lib.hid HI.out.below
            have KAr := Lib.hid (KB.out.on XR.out)
            have k0 := dk0 KAr.out
            have k1 := dk1 KAr.out
            by_cases hlt : j < n
            · have HDR := Lib.hid (HD.out.below (BX.out.trans (XR.out.mono BX.out.size)))
              obtain ⟨b1, o1, no1, a1, n1, c1, L1, s1, rfl, hb1, hx, p0, p1, p2, hok⟩ := (HDR.out.2.1).at (i := j) (by rw [HD.out.1]; exact hlt)
              have HST := Lib.hid (filter_take_step (fun x : FP => decide (x.no < no)) hx)
              have HOK := Lib.hid hok
              clear hx hok
              by_cases hc : no1 < no
              · have d5 : decide (no1 < no) = true := decide_eq_true hc
                have hlz := filter_take_len (fun x : FP => decide (x.no < no)) xs j
                have hZ : (xs.take (j + 1)).filter (fun x : FP => decide (x.no < no)) = ((xs.take j).filter (fun x : FP => decide (x.no < no))) ++ [⟨no1, a1, n1, c1, L1, s1⟩] := by
                  rw [HST.out, if_pos d5]
                have HZ := Lib.hid hZ
                clear hc hZ
                have hbs := HI.out.base
                have hzl : ((xs.take j).filter (fun x : FP => decide (x.no < no))).length ≤ n + 15 := by omega
                have HZL := Lib.hid hzl
                clear hzl hlz
                go_wp2_with (
                  at_builtin
                  refine wpList_append_files _ rfl _ _ rfl B v ((xs.take j).filter (fun x : FP => decide (x.no < no))).length ((xs.take j).filter (fun x : FP => decide (x.no < no))) rfl (ownsRow_below HI.out.own ((Below.refl _ wr).alloc (Nat.le_refl _) _)) (some ⟨wr.heap.size, 0, none⟩) 1 1 [⟨no1, a1, n1, c1, L1, s1⟩] rfl (one_file HOK.out) (by have h1 := HZL.out; omega) (by simp; omega) ?_
                  intro v2 w5 hown2 hgrow2
                  have HI2 := Lib.hid (HI.out.app hown2 hgrow2)
                  clear hown2 hgrow2)
                go_roundg (n - (j + 1))
                case rel => exact ⟨j + 1, _, rfl, by go_num, by omega, Lib.hid (by rw [HZ.out]; exact HI2.out)⟩
                case measure => omega
              · have d5 : decide (no1 < no) = false := decide_eq_false hc
                have hZ : (xs.take (j + 1)).filter (fun x : FP => decide (x.no < no)) = (xs.take j).filter (fun x : FP => decide (x.no < no)) := by
                  rw [HST.out, if_neg (by rw [d5]; decide), List.append_nil]
                have HZ := Lib.hid hZ
                clear hc hZ
                go_wp2
                go_roundg (n - (j + 1))
                case rel => exact ⟨j + 1, _, rfl, by go_num, by omega, Lib.hid (by rw [HZ.out]; exact HI.out)⟩
                case measure => omega
            · have hd : decide (j < n) = false := by simp; omega
              obtain rfl : j = n := by omega
              have hzl := filter_take_len (fun x : FP => decide (x.no < no)) xs j
              have hbs := HI.out.base
              have HZL := Lib.hid hzl
              clear hzl
              go_wp2_with (
                at_builtin
                refine wpList_append_files _ rfl _ _ rfl B v ((xs.take j).filter (fun x : FP => decide (x.no < no))).length ((xs.take j).filter (fun x : FP => decide (x.no < no))) rfl (ownsRow_below HI.out.own ((Below.refl _ wr).alloc (Nat.le_refl _) _)) (some ⟨wr.heap.size, 0, none⟩) 1 1 [⟨no, none, 0, 0, [], 0⟩] rfl (one_file ⟨rfl, ⟨⟨by simp, by simp [maxLen]⟩, by simp, .inl rfl⟩, fun _ => ⟨rfl, rfl⟩⟩) (by have h1 := HZL.out; omega) (by simp; omega) ?_
                intro v2 w5 hown2 hgrow2
                have HI2 := Lib.hid (HI.out.app hown2 hgrow2)
                clear hown2 hgrow2)
              have HI3 : Hid (MInv w B x0 v2 ((xs.take j).filter (fun x : FP => decide (x.no < no)) ++ ([⟨no, none, 0, 0, [], 0⟩] : List FP) ++ (xs.take 0).filter (fun x : FP => decide (no < x.no))) w5) := Lib.hid (by simpa using HI2.out)
              clear HI HI2 k0 k1 KAr XR hd hbs
              obtain ⟨n, rfl⟩ : ∃ n, n = j := ⟨_, rfl⟩
              go_loopg [7, 9] n (fun g q i wr => ∃ (j : Nat) (v : Value), v = q ∧ i = .int .i64 j ∧ j + g = n ∧ Hid (MInv w B x0 v ((xs.take n).filter (fun x : FP => decide (x.no < no)) ++ ([⟨no, none, 0, 0, [], 0⟩] : List FP) ++ (xs.take j).filter (fun x : FP => decide (no < x.no))) wr))
              case atStart => exact ⟨0, _, rfl, rfl, by omega, HI3⟩
              case round =>
                obtain ⟨j, v, rfl, rfl, hjn, HI⟩ := hrel
                have XR := Lib.hid HI.out.below
                have KAr := Lib.hid (KB.out.on XR.out)
                have k0 := dk0 KAr.out
                have k1 := dk1 KAr.out
                by_cases hlt : j < n
                · have HDR := Lib.hid (HD.out.below (BX.out.trans (XR.out.mono BX.out.size)))
                  obtain ⟨b1, o1, no1, a1, n1, c1, L1, s1, rfl, hb1, hx, p0, p1, p2, hok⟩ := (HDR.out.2.1).at (i := j) (by rw [HD.out.1]; exact hlt)
                  have HST := Lib.hid (filter_take_step (fun x : FP => decide (no < x.no)) hx)
                  have HOK := Lib.hid hok
                  clear hx hok
                  by_cases hc : no < no1
                  · have d5 : decide (no < no1) = true := decide_eq_true hc
                    have hlz := filter_take_len (fun x : FP => decide (no < x.no)) xs j
                    have hZ : (xs.take n).filter (fun x : FP => decide (x.no < no)) ++ ([⟨no, none, 0, 0, [], 0⟩] : List FP) ++ (xs.take (j + 1)).filter (fun x : FP => decide (no < x.no)) = ((xs.take n).filter (fun x : FP => decide (x.no < no)) ++ ([⟨no, none, 0, 0, [], 0⟩] : List FP) ++ (xs.take j).filter (fun x : FP => decide (no < x.no))) ++ [⟨no1, a1, n1, c1, L1, s1⟩] := by
                      rw [HST.out, if_pos d5]; simp
                    have HZ := Lib.hid hZ
                    clear hc hZ
                    have hbs := HI.out.base
                    have hzl : ((xs.take n).filter (fun x : FP => decide (x.no < no)) ++ ([⟨no, none, 0, 0, [], 0⟩] : List FP) ++ (xs.take j).filter (fun x : FP => decide (no < x.no))).length ≤ n + 15 := by simp only [List.length_append, List.length_cons, List.length_nil]; have h1 := filter_take_len (fun x : FP => decide (x.no < no)) xs n; omega
                    have HZL := Lib.hid hzl
                    clear hzl hlz
                    go_wp2_with (
                      at_builtin
                      refine wpList_append_files _ rfl _ _ rfl B v ((xs.take n).filter (fun x : FP => decide (x.no < no)) ++ ([⟨no, none, 0, 0, [], 0⟩] : List FP) ++ (xs.take j).filter (fun x : FP => decide (no < x.no))).length ((xs.take n).filter (fun x : FP => decide (x.no < no)) ++ ([⟨no, none, 0, 0, [], 0⟩] : List FP) ++ (xs.take j).filter (fun x : FP => decide (no < x.no))) rfl (ownsRow_below HI.out.own ((Below.refl _ wr).alloc (Nat.le_refl _) _)) (some ⟨wr.heap.size, 0, none⟩) 1 1 [⟨no1, a1, n1, c1, L1, s1⟩] rfl (one_file HOK.out) (by have h1 := HZL.out; omega) (by simp; omega) ?_
                      intro v2 w5 hown2 hgrow2
                      have HI2 := Lib.hid (HI.out.app hown2 hgrow2)
                      clear hown2 hgrow2)
                    go_roundg (n - (j + 1))
                    case rel => exact ⟨j + 1, _, rfl, by go_num, by omega, Lib.hid (by rw [HZ.out]; exact HI2.out)⟩
                    case measure => omega
                  · have d5 : decide (no < no1) = false := decide_eq_false hc
                    have hZ : (xs.take n).filter (fun x : FP => decide (x.no < no)) ++ ([⟨no, none, 0, 0, [], 0⟩] : List FP) ++ (xs.take (j + 1)).filter (fun x : FP => decide (no < x.no)) = (xs.take n).filter (fun x : FP => decide (x.no < no)) ++ ([⟨no, none, 0, 0, [], 0⟩] : List FP) ++ (xs.take j).filter (fun x : FP => decide (no < x.no)) := by
                      rw [HST.out, if_neg (by rw [d5]; decide), List.append_nil]
                    have HZ := Lib.hid hZ
                    clear hc hZ
                    go_wp2
                    go_roundg (n - (j + 1))
                    case rel => exact ⟨j + 1, _, rfl, by go_num, by omega, Lib.hid (by rw [HZ.out]; exact HI.out)⟩
                    case measure => omega
                · have hd : decide (j < n) = false := by simp; omega
                  obtain rfl : j = n := by omega
                  have hJ : xs.take j = xs := List.take_of_length_le (by rw [HD.out.1]; exact Nat.le_refl _)
                  have hI := HI.out
                  rw [hJ] at hI
                  have HI4 := Lib.hid hI
                  have HOKS : Hid (∀ x ∈ xs.filter (fun x : FP => decide (x.no < no)) ++ ([⟨no, none, 0, 0, [], 0⟩] : List FP) ++ xs.filter (fun x : FP => decide (no < x.no)), FP.ok wr x) := Lib.hid (fun x hx => by
                    have h1 := (HD.out.below (BX.out.trans (XR.out.mono BX.out.size))).2.1.2.1
                    rcases List.mem_append.1 hx with hx | hx
                    · rcases List.mem_append.1 hx with hx | hx
                      · exact h1 x (List.mem_filter.1 hx).1
                      · simp only [List.mem_singleton] at hx
                        rw [hx]
                        exact ⟨rfl, ⟨⟨by simp, by simp [maxLen]⟩, by simp, .inl rfl⟩, fun _ => ⟨rfl, rfl⟩⟩
                    · exact h1 x (List.mem_filter.1 hx).1)
                  have HXL : Hid (∀ x ∈ xs.filter (fun x : FP => decide (x.no < no)) ++ ([⟨no, none, 0, 0, [], 0⟩] : List FP) ++ xs.filter (fun x : FP => decide (no < x.no)), x ∈ xs ∨ x.B = []) := Lib.hid (fun x hx => by
                    rcases List.mem_append.1 hx with hx | hx
                    · rcases List.mem_append.1 hx with hx | hx
                      · exact .inl (List.mem_filter.1 hx).1
                      · simp only [List.mem_singleton] at hx
                        rw [hx]
                        exact .inr rfl
                    · exact .inl (List.mem_filter.1 hx).1)
                  have HFS : Hid (FP.files (xs.filter (fun x : FP => decide (x.no < no)) ++ ([⟨no, none, 0, 0, [], 0⟩] : List FP) ++ xs.filter (fun x : FP => decide (no < x.no))) = (FP.files xs).filter (fun f => decide (f.1 < no)) ++ (no, [], 0) :: (FP.files xs).filter (fun f => decide (no < f.1))) := Lib.hid (by
                    rw [FP.files_append, FP.files_append, ← FP.files_filter, ← FP.files_filter, List.append_assoc]
                    rfl)
                  obtain ⟨Z, hZ⟩ : ∃ Z, xs.filter (fun x : FP => decide (x.no < no)) ++ ([⟨no, none, 0, 0, [], 0⟩] : List FP) ++ xs.filter (fun x : FP => decide (no < x.no)) = Z := ⟨_, rfl⟩
                  rw [hZ] at HI4 HOKS HXL HFS
                  clear hI hZ HI hJ
                  obtain ⟨a3, c3, rfl, hfl, hz⟩ := own_files HI4.out.own rfl HOKS.out
                  have HFL := Lib.hid hfl
                  have HZZ := Lib.hid hz
                  have KRr := Lib.hid (KRB.out.on XR.out)
                  have r0 := dk0 KRr.out
                  have r1 := dk1 KRr.out
                  have f0 := KRr.out.frozen 0
                  have f1 := KRr.out.frozen 1
                  have XF := Lib.hid (BX.out.trans (XR.out.mono BX.out.size))
                  clear hfl hz
                  go_wp2
                  have hlt3 : ∀ g off, a3 = some ⟨g, off, none⟩ → B ≤ g := by
                    rintro g off rfl
                    exact (HI4.out.own.lt _ rfl).1
                  have hfar : Far (w.heap.size + 1) a3 Z := by
                    refine ⟨?_, fun x hx => ?_⟩
                    · rintro g off e _ rfl
                      have h := hlt3 _ _ e
                      omega
                    · rcases HXL.out x hx with h | h
                      · exact (HFA.out _ (.inr (by omega))).2 x h
                      · exact .inl h
                  have hfb : ∀ b, b < w.heap.size → P b → Far b a3 Z := fun b hb hp => by
                    refine ⟨?_, fun x hx => ?_⟩
                    · rintro g off e _ rfl
                      have h := hlt3 _ _ e
                      omega
                    · rcases HXL.out x hx with h | h
                      · exact (HFA.out b (.inl hp)).2 x h
                      · exact .inl h
                  have hDI : DiskIn _ a3 Z.length c3 Z := ⟨rfl, HFL.out, HZZ.out⟩
                  refine bodyPost_ret (ret_disk2 (x := .int .i64 0) (g := w.heap.size + 1) rfl k a3 Z.length c3 (by kernel_rfl) (by kernel_rfl) KRr.out.put) (by kernel_rfl) ?_
                  exact ⟨a3, _, c3, _, by rw [HU.out], Lib.hid ((hDI.set hfar 0 _).set hfar 1 _), Lib.hid (by rw [HU.out]; exact HFS.out), Lib.hid fun b hb hp => hfb b hb hp, below_store XF.out (Nat.le_succ _) _ _ _ _⟩
    · have HU : Hid (D.make (k, FP.files xs) no = ((k, FP.files xs), 1)) := Lib.hid (by unfold D.make; rw [if_neg (fun h => hn h.2)])
      clear hd hs hm
      by_cases hn1 : no < 1
      · have d1 : decide (no < 1) = true := by simpa using hn1
        clear hn hn1
        go_enter Try.func31, Try.ntmps31
        go_wp2_with fail
        refine (refMay_any k a n c xs true (dbn w k a n c) (HD.out.below (dbn_on X0.out)) HS.out HM.out).mono ?_
        rintro e w1 ⟨rfl, hb1⟩
        have X1 := Lib.hid (X0.out.trans (hb1.mono X0.out.size))
        have KA1 := Lib.hid ((dbn_arg w k a n c).on X1.out)
        have KR1 := Lib.hid ((dbn_res w k a n c).on X1.out)
        clear hb1
        have k0 := dk0 KA1.out
        have k1 := dk1 KA1.out
        have hfar : Far (w.heap.size + 1) a xs := HFA.out _ (.inr (by omega))
        have r0 := dk0 KR1.out
        have r1 := dk1 KR1.out
        have f0 := KR1.out.frozen 0
        have f1 := KR1.out.frozen 1
        go_wp2
        refine bodyPost_ret (ret_disk2 (x := .int .i64 1) (g := w.heap.size + 1) rfl k a n c (by kernel_rfl) (by kernel_rfl) KR1.out.put) (by kernel_rfl) ?_
        exact ⟨a, n, c, xs, by rw [HU.out], Lib.hid (((HD.out.below (dbn_on X1.out)).set hfar 0 _).set hfar 1 _), Lib.hid (by rw [HU.out]), Lib.hid fun b hb hp => HFA.out b (.inl hp), below_store (dbn_on X1.out) (Nat.le_succ _) _ _ _ _⟩
      · have d1 : decide (no < 1) = false := by simpa using hn1
        have d2 : decide (1073741824 < no) = true := by simp; omega
        clear hn hn1
        go_enter Try.func31, Try.ntmps31
        go_wp2_with fail
        refine (refMay_any k a n c xs true (dbn w k a n c) (HD.out.below (dbn_on X0.out)) HS.out HM.out).mono ?_
        rintro e w1 ⟨rfl, hb1⟩
        have X1 := Lib.hid (X0.out.trans (hb1.mono X0.out.size))
        have KA1 := Lib.hid ((dbn_arg w k a n c).on X1.out)
        have KR1 := Lib.hid ((dbn_res w k a n c).on X1.out)
        clear hb1
        have k0 := dk0 KA1.out
        have k1 := dk1 KA1.out
        have hfar : Far (w.heap.size + 1) a xs := HFA.out _ (.inr (by omega))
        have r0 := dk0 KR1.out
        have r1 := dk1 KR1.out
        have f0 := KR1.out.frozen 0
        have f1 := KR1.out.frozen 1
        go_wp2
        refine bodyPost_ret (ret_disk2 (x := .int .i64 1) (g := w.heap.size + 1) rfl k a n c (by kernel_rfl) (by kernel_rfl) KR1.out.put) (by kernel_rfl) ?_
        exact ⟨a, n, c, xs, by rw [HU.out], Lib.hid (((HD.out.below (dbn_on X1.out)).set hfar 0 _).set hfar 1 _), Lib.hid (by rw [HU.out]), Lib.hid fun b hb hp => HFA.out b (.inl hp), below_store (dbn_on X1.out) (Nat.le_succ _) _ _ _ _⟩
  · have HU : Hid (D.make (k, FP.files xs) no = ((k, FP.files xs), 1)) := Lib.hid (by unfold D.make; rw [if_neg (fun h => hm h.1)])
    have HM := Lib.hid (decide_eq_false hm)
    clear hd hs hm
    go_enter Try.func31, Try.ntmps31
    go_wp2_with fail
    refine (refMay_any k a n c xs false (dbn w k a n c) (HD.out.below (dbn_on X0.out)) HS.out HM.out).mono ?_
    rintro e w1 ⟨rfl, hb1⟩
    have X1 := Lib.hid (X0.out.trans (hb1.mono X0.out.size))
    have KA1 := Lib.hid ((dbn_arg w k a n c).on X1.out)
    have KR1 := Lib.hid ((dbn_res w k a n c).on X1.out)
    clear hb1
    have k0 := dk0 KA1.out
    have k1 := dk1 KA1.out
    have hfar : Far (w.heap.size + 1) a xs := HFA.out _ (.inr (by omega))
    have r0 := dk0 KR1.out
    have r1 := dk1 KR1.out
    have f0 := KR1.out.frozen 0
    have f1 := KR1.out.frozen 1
    go_wp2
    refine bodyPost_ret (ret_disk2 (x := .int .i64 1) (g := w.heap.size + 1) rfl k a n c (by kernel_rfl) (by kernel_rfl) KR1.out.put) (by kernel_rfl) ?_
    exact ⟨a, n, c, xs, by rw [HU.out], Lib.hid (((HD.out.below (dbn_on X1.out)).set hfar 0 _).set hfar 1 _), Lib.hid (by rw [HU.out]), Lib.hid fun b hb hp => HFA.out b (.inl hp), below_store (dbn_on X1.out) (Nat.le_succ _) _ _ _ _⟩
end Go.Proofs.Ytcabhibbajkpkaa
