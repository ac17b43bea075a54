import Derived.Test.YtnbkkjcmblfhpaaGreatP21
namespace Go.Proofs.YtnbkkjcmblfhpaaGreat
set_option maxHeartbeats 400000
set_option maxRecDepth 100000
open Go.RowKit
theorem zyq.ret {k : Int} {l : List D.F} {w w' : World} {e : Ending} (h : zyq k l w e w') : RetD any (k, l) w e w' := by
 obtain ⟨a, n, c, ys, rfl, hn, hl, hr, ho, _, hb⟩ := h
 obtain ⟨a', c', he, hf, hz⟩ := zug hr.out hn.out (fun y hy => (ho.out y hy).ok)
 simp only [Value.slice.injEq, true_and] at he
 obtain ⟨rfl, rfl⟩ := he
 refine ⟨a, n, c, ys, rfl, Zh ⟨hn.out, hf, hz⟩, hl, Zh fun b hlt _ => ⟨?_, fun x hx => .inr ?_⟩, hb⟩
 ·rintro g off rfl _ rfl
  have := (hr.out.lt g rfl).1
  omega
 ·rintro y hy rfl
  have := ((ho.out x hx).lt hy).1
  omega
theorem zt7 (k : Int) (a : Option Addr) (n c : Nat) (xs : List FP) (w : World) (hd : zf0 w a n c xs) (hs : D.small (FP.files xs)) :
  Calls Tryz.prog 75 #[.agg #[.int .i64 k, .slice a n c]] w (RetD any (k, FP.files xs) w) := (own_any k a n c xs w hd hs).mono fun _ _ h => h.ret
theorem zya (k : Int) (a : Option Addr) (n c : Nat) (p q : Nat) (al : Option Addr) (m cl : Nat) (xs ys : List FP) (w : World) (hd : zf0 w a n c xs) (hy : zf0 w al m cl ys) (hp : p <= n) (hq : q <= n) (h9 : n <= 14 /\ m <= 14) (hs : D.small (FP.files (xs.take p ++ ys ++ xs.drop q))) :
  Calls Tryz.prog 108 #[.agg #[.int .i64 k, .slice a n c], .int .i64 (p : Int), .int .i64 (q : Int), .slice al m cl] w (RetD any (k, FP.files (xs.take p ++ ys ++ xs.drop q)) w) := by
 have HBX := Zh (zui w k a n c)
 have HD := Zh hd
 have HY := Zh hy
 have hcap := hd.caps
 have hml : maxLen <= 9223372036854775807 := by decide
 have hsl : ∀ w, (Instr.sliceAt 22 (.slice a n c) none (some (.int .i64 (p : Int))) (some (.int .i64 (p : Int)))).run Tryz.prog w = .ok (.slice (sl3 a 0 p) p p) w := fun w => zxm a w (Nat.le_refl p) (by omega)
 have KA := Zh (zf7 w k a n c)
 have KR := Zh (zf4 w k a n c)
 have hP : zf0 (dbn w k a n c) (sl3 a 0 p) p p (xs.take p) := by
  have := (HD.out.below HBX.out).part (l := 0) (h := p) (m := p) (Nat.zero_le _) hp (Nat.le_refl _) (by omega)
  simpa using this
 have hG : zvx (dbn w k a n c) (dbn w k a n c) (.slice (sl3 a 0 p) p p) (xs.take p) := by
  have hl : (xs.take p).length = p := by simp [hd.1]; omega
  refine .inl ⟨sl3 a 0 p, ?_, ?_⟩ <;> rw [hl]
  exact hP
 obtain ⟨v1, w1, hrun, hG1, hB1, row1, hrow1, hrow2⟩ := zvd 22 hG (Below.refl _ _) (HY.out.below HBX.out) (by have := hP.1; omega)
 have HG1 := Zh hG1
 clear hd hy hP hG hG1
 go_enter Tryz.func108, Tryz.ntmps108
 go_wp2_with (at_builtin; refine zuj (v' := v1) (w' := w1) rfl rfl rfl rfl hrun ?_)
 have KA1 := Zh (KA.out.on hB1)
 have KR1 := Zh (KR.out.on hB1)
 refine wp_region_held (S := fun w' => w'.cell? ⟨w.heap.size, 0, none⟩ = some (.int .i64 k) /\ w'.cell? ⟨w.heap.size, 1, none⟩ = some (.slice a n c)) (by kernel_rfl) ?_
 change wpAnyH _ _ _ _ _ _ _ _ (World.drew w1)
 have HS0 : (fun w' : World => w'.cell? ⟨w.heap.size, 0, none⟩ = some (.int .i64 k) /\ w'.cell? ⟨w.heap.size, 1, none⟩ = some (.slice a n c)) (World.drew w1) := ⟨dk0 KA1.out, dk1 KA1.out⟩
 obtain ⟨a1, c1, rfl, hd1⟩ := HG1.out.disk (fun x hx => by
  rcases List.mem_append.1 hx with hx | hx
  ·exact (((HD.out.below HBX.out).below hB1).2.1.2.1 x (List.mem_of_mem_take hx))
  ·exact (((HY.out.below HBX.out).below hB1).2.1.2.1 x hx))
 refine tk 0 ((.pointer (some ⟨w.heap.size, 0, none⟩))) HS0 ?_
 refine wpAnyH_take (i := 1) (v := (.int .i64 k)) rfl (by kernel_rfl) (by kernel_rfl) (by kernel_rfl) (fun _ _ _ h => h) (.inl ⟨by kernel_rfl, fun w9 hS => by have c := hS.1; go_simp⟩) HS0 ?_
 refine tk 2 ((.slice a1 (xs.take p ++ ys).length c1)) HS0 ?_
 refine tk 3 ((.pointer (some ⟨w.heap.size, 1, none⟩))) HS0 ?_
 refine wpAnyH_take (i := 4) (v := (.slice a n c)) rfl (by kernel_rfl) (by kernel_rfl) (by kernel_rfl) (fun _ _ _ h => h) (.inl ⟨by kernel_rfl, fun w9 hS => by have c := hS.2; go_simp⟩) HS0 ?_
 refine tk 5 ((.int .i64 (q : Int))) HS0 ?_
 refine wpAnyH_take (i := 6) (v := (.slice (sl3 a q c) (n - q) (c - q))) rfl (by kernel_rfl) (by kernel_rfl) (by kernel_rfl) (fun _ _ _ h => h) (.inl ⟨by kernel_rfl, fun w9 hS => zvo rfl (by kernel_rfl) (by kernel_rfl) hq w9⟩) HS0 ?_
 have hQ : zf0 (World.drew w1) (sl3 a q c) (n - q) (c - q) (xs.drop q) := by
  have h1 := ((HD.out.below HBX.out).below hB1.drew).part (l := q) (h := n) (m := c) hq (Nat.le_refl _) hcap.1 (Nat.le_refl _)
  rwa [List.take_of_length_le (by rw [HD.out.1]; exact Nat.le_refl _)] at h1
 obtain ⟨v2, w2, hrun2, hG2, hB2, row2, hrow3, hrow4⟩ := zvd (w0 := dbn w k a n c) (w := World.drew w1) 22 (HG1.out.below (zaa w1)) hB1.drew hQ (by have h1 := HD.out.1; have h2 := HY.out.1; simp; omega)
 have KA2 := Zh (KA.out.on hB2)
 have KR2 := Zh (KR.out.on hB2)
 obtain ⟨a2, c2, rfl, hd2⟩ := hG2.disk (fun x hx => by
  rcases List.mem_append.1 hx with hx | hx
  ·rcases List.mem_append.1 hx with hx | hx
   ·exact (((HD.out.below HBX.out).below hB2).2.1.2.1 x (List.mem_of_mem_take hx))
   ·exact (((HY.out.below HBX.out).below hB2).2.1.2.1 x hx)
  ·exact (((HD.out.below HBX.out).below hB2).2.1.2.1 x (List.mem_of_mem_drop hx)))
 have HS2 : (fun w' : World => w'.cell? ⟨w.heap.size, 0, none⟩ = some (.int .i64 k) /\ w'.cell? ⟨w.heap.size, 1, none⟩ = some (.slice a n c)) w2 := ⟨dk0 KA2.out, dk1 KA2.out⟩
 refine zaf (i := 7) (by kernel_rfl) (zam (w' := w2) (v := .slice a2 (xs.take p ++ ys ++ xs.drop q).length c2) rfl (by kernel_rfl) (zwe rfl (by kernel_rfl) (by kernel_rfl) hrun2) ⟨HS2, ?_⟩)
 refine tk 8 ((.agg #[.int .i64 k, .slice a2 (xs.take p ++ ys ++ xs.drop q).length c2])) HS2 ?_
 refine Zc 9 75 #[.agg #[.int .i64 k, .slice a2 (xs.take p ++ ys ++ xs.drop q).length c2]] (zt7 k a2 _ c2 _ w2 hd2 hs) ?_
 rintro e w3 ⟨a3, n3, c3, zs, rfl, HD3, HF3, HX3, hb3⟩
 have KA3 := Zh (KA2.out.on hb3)
 have KR3 := Zh (KR2.out.on hb3)
 have B3 := Zh (HBX.out.trans ((hB2.trans (hb3.mono hB2.size)).mono HBX.out.size))
 have HS3 : (fun w' : World => w'.cell? ⟨w.heap.size, 0, none⟩ = some (.int .i64 k) /\ w'.cell? ⟨w.heap.size, 1, none⟩ = some (.slice a n c)) w3 := ⟨dk0 KA3.out, dk1 KA3.out⟩
 refine ⟨_, rfl, HS3, ?_⟩
 have r0 := dk0 KR3.out
 have r1 := dk1 KR3.out
 have f0 := KR3.out.frozen 0
 have f1 := KR3.out.frozen 1
 have hsz : w.heap.size + 2 <= w2.heap.size := by have := hB2.size; rw [zun] at this; exact this
 have hfar : dFar (w.heap.size + 1) a3 zs := HX3.out _ (by omega) trivial
 have hfb : ∀ b, b < w.heap.size -> dFar b a3 zs := fun b hb => HX3.out b (by omega) trivial
 have ke := KA3.out.grown (zf3 w3 (w.heap.size + 1) 0 (.int .i64 k)) (by simp)
 have ke2 := ke.grown (zf3 _ (w.heap.size + 1) 1 (.slice a3 n3 c3)) (by simp)
 have HS4 : (fun w' : World => w'.cell? ⟨w.heap.size, 0, none⟩ = some (.int .i64 k) /\ w'.cell? ⟨w.heap.size, 1, none⟩ = some (.slice a n c)) ((w3.setCell ⟨w.heap.size + 1, 0, none⟩ (.int .i64 k)).setCell ⟨w.heap.size + 1, 1, none⟩ (.slice a3 n3 c3)) := ⟨dk0 ke2, dk1 ke2⟩
 refine zaf (i := 10) (by kernel_rfl) (zah (w' := (w3.setCell ⟨w.heap.size + 1, 0, none⟩ (.int .i64 k)).setCell ⟨w.heap.size + 1, 1, none⟩ (.slice a3 n3 c3)) rfl (by kernel_rfl) (by go_simp) ⟨HS4, ?_⟩)
 refine wpAnyH_done (by kernel_rfl) ?_ _
 clear HS0 HS2 HS3 HS4 r0 r1 f0 f1 ke ke2 hrun hrun2 hb3
 go_wp2
 refine bodyPost_ret (zu5 (g := w.heap.size + 1) rfl k a3 n3 c3 (by kernel_rfl) KR3.out.putD) (by kernel_rfl) ?_
 exact ⟨a3, n3, c3, zs, rfl, Zh ((HD3.out.set hfar 0 _).set hfar 1 _), Zh (HF3.out.trans (by simp)), Zh fun b hb _ => hfb b hb, zf1 B3.out (Nat.le_succ _) _ _ _ _⟩
theorem zvp (k : Int) (a : Option Addr) (n c : Nat) (p q : Nat) (p' q' : Int) (al : Option Addr) (m cl : Nat) (xs ys : List FP) (w : World) (hp' : p' = (p : Int)) (hq' : q' = (q : Int)) (hd : zf0 w a n c xs) (hy : zf0 w al m cl ys) (hp : p <= n) (hq : q <= n) (h9 : n <= 14 /\ m <= 14) (hs : D.small (FP.files (xs.take p ++ ys ++ xs.drop q))) :
  Calls Tryz.prog 108 #[.agg #[.int .i64 k, .slice a n c], .int .i64 p', .int .i64 q', .slice al m cl] w (RetD any (k, FP.files (xs.take p ++ ys ++ xs.drop q)) w) := by
 subst hp' hq'
 exact zya k a n c p q al m cl xs ys w hd hy hp hq h9 hs
theorem zf5 {w w' : World} {k : Int} {a : Option Addr} {n c : Nat} (h : Below (dbn w k a n c).heap.size (dbn w k a n c) w') : Below w.heap.size w w' := (zui w k a n c).trans (h.mono (zui w k a n c).size)
theorem zuk {w w' : World} {k : Int} {a : Option Addr} {n c : Nat} (h : Below (dbn w k a n c).heap.size (dbn w k a n c) w') : w.heap.size + 2 <= w'.heap.size := by have := h.size; rw [zun] at this; exact this
end Go.Proofs.YtnbkkjcmblfhpaaGreat
namespace Go.Proofs.YtnbkkjcmblfhpaaGreat
set_option maxHeartbeats 400000
set_option maxRecDepth 100000
open Go.RowKit
theorem zt8 (no : Int) (b : Bool) (w : World) (h : decide (1 <= no /\ no <= 1073741824) = b) :
  Calls Tryz.prog 127 #[.int .i64 no] w fun e w' => e = .returned (.bool b) /\ w = w' := by
 have HB := Zh h
 clear h
 by_cases h1 : 1 <= no
 ·have HB2 : Hid (b = decide (no <= 1073741824)) := Zh (by rw [<- HB.out]; simp [h1])
  go_enter Tryz.func127, Tryz.ntmps127
  go_wp2
  go_ret
  exact ⟨by rw [HB2.out]; rfl, rfl⟩
 ·have HB2 : Hid (b = false) := Zh (by rw [<- HB.out]; simp [h1])
  have h2 : decide (1 <= no) = false := by simp [h1]
  go_enter Tryz.func127, Tryz.ntmps127
  go_wp2
  go_ret
  exact ⟨by rw [HB2.out]; rfl, rfl⟩
theorem zys (k : Int) (a : Option Addr) (n c : Nat) (w : World) (h : ¬ (0 <= k /\ k <= 65536 /\ n <= 12)) :
  Calls Tryz.prog 64 #[.agg #[.int .i64 k, .slice a n c]] w fun e w' => e = .returned (.bool false) /\ Below w.heap.size w w' := by
 have HBX := Zh (zf2 w k a n c)
 by_cases h0 : 0 <= k
 ·have d0 : decide (k < 0) = false := by simp; omega
  by_cases h1 : k <= 65536
  ·have d1 : decide ((65536 : Int) < k) = false := by simp; omega
   have d2 : decide ((12 : Int) < (n : Int)) = true := by simp; omega
   go_enter Tryz.func64, Tryz.ntmps64
   go_wp2
   go_ret
   exact ⟨rfl, HBX.out⟩
  ·have d1 : decide ((65536 : Int) < k) = true := by simp; omega
   go_enter Tryz.func64, Tryz.ntmps64
   go_wp2
   go_ret
   exact ⟨rfl, HBX.out⟩
 ·have d0 : decide (k < 0) = true := by simp; omega
  go_enter Tryz.func64, Tryz.ntmps64
  go_wp2
  go_ret
  exact ⟨rfl, HBX.out⟩
theorem zyt {xs : List FP} {k : Nat} {x : FP} (h : xs[k]? = some x) : FP.files (xs.drop k) = FP.file x :: FP.files (xs.drop (k + 1)) := by
 obtain ⟨h1, h2⟩ := List.getElem?_eq_some_iff.1 h
 rw [List.drop_eq_getElem_cons h1, h2]; rfl
theorem zy0 (k : Int) (a : Option Addr) (n c : Nat) (xs : List FP) (b : Bool) (w : World) (hd : zf0 w a n c xs) (h : 0 <= k /\ k <= 65536 /\ n <= 12) (hb : D.chk 0 k (FP.files xs) = b) :
  Calls Tryz.prog 64 #[.agg #[.int .i64 k, .slice a n c]] w fun e w' => e = .returned (.bool b) /\ Below w.heap.size w w' := by
 have HBX := Zh (zf2 w k a n c)
 have HD := Zh hd
 have HB := Zh hb
 have d0 : decide (k < 0) = false := by simp; omega
 have d1 : decide ((65536 : Int) < k) = false := by simp; omega
 have d2 : decide ((12 : Int) < (n : Int)) = false := by simp; omega
 obtain ⟨k0, hk0⟩ : ∃ k0, k0 = k := ⟨k, rfl⟩
 have HN : n <= 12 := h.2.2
 have hk1 : 0 <= k /\ k <= 65536 := ⟨h.1, h.2.1⟩
 clear hd hb h
 go_enter Tryz.func64, Tryz.ntmps64
 go_wp2_with fail
 go_quiet (fail)
 go_wp2_with fail
 go_loopw [3, 4, 26] (fun p r i wr => ∃ (k : Nat) (y z : Int), i = .int .i64 k /\ p = .int .i64 y /\ r = .int .i64 z /\ k <= n /\ (z <= 65536 /\ 0 <= z) /\ Hid (D.chk y z (FP.files (xs.drop k)) = b) /\ Below w.heap.size w wr) (fun _ _ i _ => n - (intOf i).toNat)
 case atStart => exact ⟨0, 0, k, rfl, rfl, rfl, by omega, by omega, by simpa using HB, HBX.out.trans (zad _ _ _)⟩
 case round =>
  obtain ⟨j, y, z, rfl, rfl, rfl, hjn, hz, HC, hB⟩ := hrel
  by_cases hlt : j < n
  ·obtain ⟨b1, o1, no, a1, n1, c1, B1, s1, rfl, hb1, hx, p0, p1, p2, hok⟩ := ((HD.out.below hB).2.1).at (i := j) (by rw [HD.out.1]; exact hlt)
   have HS : Hid ((decide (1 <= no /\ no <= 1073741824 /\ y < no /\ 0 <= s1 /\ s1 <= (n1 : Int) /\ (n1 : Int) <= z) && D.chk no (z - n1) (FP.files (xs.drop (j + 1)))) = b) := Zh (by
    have h := HC.out
    rw [zyt hx] at h
    simpa [D.chk, FP.file, hok.1] using h)
   have BB := Zh (hB.trans (((Below.refl _ wr).alloc (Nat.le_refl _) (.cells #[.int .i64 no, .slice a1 n1 c1, .int .i64 s1] 53)).mono hB.size))
   clear hx hok HC
   by_cases h1 : 1 <= no /\ no <= 1073741824
   ·have HI := Zh (decide_eq_true h1)
    by_cases h2 : no <= y
    ·have HF : Hid (b = false) := Zh (by rw [<- HS.out, decide_eq_false (by omega)]; rfl)
     have e2 : decide (no <= y) = true := by simp; omega
     clear h1
     go_wp2_with (go_at_call 127; refine (zt8 no true _ HI.out).mono ?_; rintro e w' ⟨rfl, rfl⟩)
     go_ret
     exact ⟨by rw [HF.out]; rfl, BB.out⟩
    ·have e2 : decide (no <= y) = false := by simp; omega
     by_cases h3 : s1 < 0
     ·have HF : Hid (b = false) := Zh (by rw [<- HS.out, decide_eq_false (by omega)]; rfl)
      have e3 : decide (s1 < 0) = true := by simp; omega
      clear h1
      go_wp2_with (go_at_call 127; refine (zt8 no true _ HI.out).mono ?_; rintro e w' ⟨rfl, rfl⟩)
      go_ret
      exact ⟨by rw [HF.out]; rfl, BB.out⟩
     ·have e3 : decide (s1 < 0) = false := by simp; omega
      by_cases h4 : (n1 : Int) < s1
      ·have HF : Hid (b = false) := Zh (by rw [<- HS.out, decide_eq_false (by omega)]; rfl)
       have e4 : decide ((n1 : Int) < s1) = true := by simp; omega
       clear h1
       go_wp2_with (go_at_call 127; refine (zt8 no true _ HI.out).mono ?_; rintro e w' ⟨rfl, rfl⟩)
       go_ret
       exact ⟨by rw [HF.out]; rfl, BB.out⟩
      ·have e4 : decide ((n1 : Int) < s1) = false := by simp; omega
       by_cases h5 : z < (n1 : Int)
       ·have HF : Hid (b = false) := Zh (by rw [<- HS.out, decide_eq_false (by omega)]; rfl)
        have e5 : decide (z < (n1 : Int)) = true := by simp; omega
        clear h1
        go_wp2_with (go_at_call 127; refine (zt8 no true _ HI.out).mono ?_; rintro e w' ⟨rfl, rfl⟩)
        go_ret
        exact ⟨by rw [HF.out]; rfl, BB.out⟩
       ·have e5 : decide (z < (n1 : Int)) = false := by simp; omega
        have HT : Hid (D.chk no (z - n1) (FP.files (xs.drop (j + 1))) = b) := Zh (by rw [<- HS.out, decide_eq_true (by omega)]; rfl)
        have hw : IntKind.i64.wrap (z - (n1 : Int)) = z - n1 := zf9 (by omega) (by omega)
        clear h1
        go_wp2_with (go_at_call 127; refine (zt8 no true _ HI.out).mono ?_; rintro e w' ⟨rfl, rfl⟩)
        go_roundw
        case rel => exact ⟨j + 1, no, z - n1, by go_num, rfl, rfl, by omega, by omega, HT, BB.out⟩
        case measure => simp [intOf]; omega
   ·have HF : Hid (b = false) := Zh (by rw [<- HS.out, decide_eq_false (by omega)]; rfl)
    have HI := Zh (decide_eq_false h1)
    clear h1
    go_wp2_with (go_at_call 127; refine (zt8 no false _ HI.out).mono ?_; rintro e w' ⟨rfl, rfl⟩)
    go_ret
    exact ⟨by rw [HF.out]; rfl, BB.out⟩
  ·have HE : Hid (b = true) := Zh (by
    have h := HC.out
    rw [List.drop_eq_nil_of_le (by rw [HD.out.1]; omega)] at h
    exact h.symm)
   have hd : decide (j < n) = false := by simp; omega
   go_wp2
   go_ret
   exact ⟨by rw [HE.out]; rfl, hB⟩
theorem zt1 (k : Int) (a : Option Addr) (n c : Nat) (xs : List FP) (b : Bool) (w : World) (hd : zf0 w a n c xs) (hb : decide (D.may (k, FP.files xs)) = b) :
  Calls Tryz.prog 64 #[.agg #[.int .i64 k, .slice a n c]] w fun e w' => e = .returned (.bool b) /\ Below w.heap.size w w' := by
 have hl : (FP.files xs).length = n := by rw [FP.files_len, hd.1]
 by_cases h : 0 <= k /\ k <= 65536 /\ n <= 12
 ·refine zy0 k a n c xs b w hd h ?_
  rw [<- hb, Bool.eq_iff_iff, decide_eq_true_iff, D.may_chk]
  simp only [hl]
  exact ⟨fun h1 => ⟨h, h1⟩, fun h1 => h1.2⟩
 ·have : b = false := by
   rw [<- hb]
   refine decide_eq_false fun h1 => h ?_
   have := h1.1
   rwa [hl] at this
  subst this
  exact zys k a n c w h
end Go.Proofs.YtnbkkjcmblfhpaaGreat
namespace Go.Proofs.YtnbkkjcmblfhpaaGreat
set_option maxHeartbeats 400000
set_option maxRecDepth 100000
open Go.RowKit
theorem zv0 {xs : List FP} {j : Nat} {x : FP} (h : xs[j]? = some x) : D.used (FP.files (xs.take (j + 1))) = D.used (FP.files (xs.take j)) + x.B.length := by
 obtain ⟨h1, h2⟩ := List.getElem?_eq_some_iff.1 h
 rw [List.take_succ_eq_append_getElem h1, FP.files_append, D.used_append, h2]
 simp [FP.files, FP.file, D.used]
theorem zu2 (xs : List FP) (j : Nat) : D.used (FP.files (xs.take j)) <= D.used (FP.files xs) := by
 conv => rhs; rw [<- List.take_append_drop j xs, FP.files_append, D.used_append]
 omega
theorem zwp (k : Int) (a : Option Addr) (n c : Nat) (xs : List FP) (u : Int) (w : World) (hd : zf0 w a n c xs) (hu : (if D.may (k, FP.files xs) then (D.used (FP.files xs) : Int) else 0) = u) :
  Calls Tryz.prog 166 #[.agg #[.int .i64 k, .slice a n c]] w fun e w' => e = .returned (.int .i64 u) /\ Below w.heap.size w w' := by
 have HBX := Zh (zf2 w k a n c)
 have HD := Zh hd
 have hcap := hd.caps
 have hml : maxLen <= 9223372036854775807 := by decide
 by_cases hm : D.may (k, FP.files xs)
 ·have HM := Zh (decide_eq_true hm)
  have HU : Hid ((D.used (FP.files xs) : Int) = u) := Zh (by rw [<- hu, if_pos hm])
  have hk1 : (D.used (FP.files xs) : Int) <= 65536 := by have h1 := hm.2.2.2; have h2 := hm.1.2.1; simp only at h1 h2; omega
  have HK := Zh hk1
  clear hd hu hm hk1
  go_enter Tryz.func166, Tryz.ntmps166
  go_wp2_with fail
  refine (zt1 k a n c xs true (dbox w k a n c) (HD.out.below (zf2 w k a n c)) HM.out).mono ?_
  rintro e w1 ⟨rfl, hb1⟩
  have B1 := Zt HBX hb1
  have KB := Zh ((zt2 w k a n c).on hb1)
  clear hb1
  have k0 := dk0 KB.out
  have k1 := dk1 KB.out
  go_wp2_with fail
  go_loopw [3, 12] (fun y i wr => ∃ (j m : Nat), i = .int .i64 j /\ y = .int .i64 m /\ j <= n /\ Hid (D.used (FP.files (xs.take j)) = m) /\ Below w.heap.size w wr) (fun _ i _ => n - (intOf i).toNat)
  case atStart => exact ⟨0, 0, rfl, rfl, by omega, Zh (by simp [FP.files, D.used]), B1.out⟩
  case round =>
   obtain ⟨j, m, rfl, rfl, hjn, HC, hB⟩ := hrel
   by_cases hlt : j < n
   ·obtain ⟨b1, o1, no, a1, n1, c1, B1, s1, rfl, hb1, hx, p0, p1, p2, hok⟩ := ((HD.out.below hB).2.1).at (i := j) (by rw [HD.out.1]; exact hlt)
    have hs : D.used (FP.files (xs.take (j + 1))) = m + n1 := by rw [zv0 hx, HC.out]; exact congrArg _ hok.1
    have hle := zu2 xs (j + 1)
    have hu := HK.out
    have hmn : m + n1 <= 65536 := by omega
    have HS := Zh hs
    have BB := Zh (hB.trans (((Below.refl _ wr).alloc (Nat.le_refl _) (.cells #[.int .i64 no, .slice a1 n1 c1, .int .i64 s1] 53)).mono hB.size))
    have hw : IntKind.i64.wrap ((m : Int) + (n1 : Int)) = (m : Int) + (n1 : Int) := zf9 (by omega) (by omega)
    clear hx hok HC hs hle hu
    go_wp2
    go_roundw
    case rel => exact ⟨j + 1, m + n1, by go_num, by go_num, by omega, HS, BB.out⟩
    case measure => simp [intOf]; omega
   ·have HE : Hid ((m : Int) = u) := Zh (by
     have h := HC.out
     rw [List.take_of_length_le (by rw [HD.out.1]; omega)] at h
     rw [<- HU.out, h])
    have hd : decide (j < n) = false := by simp; omega
    go_wp2
    go_ret
    exact ⟨by rw [<- HE.out]; rfl, hB⟩
 ·have HM := Zh (decide_eq_false hm)
  have HU : Hid (u = 0) := Zh (by rw [<- hu, if_neg hm])
  clear hd hu hm
  go_enter Tryz.func166, Tryz.ntmps166
  go_wp2_with fail
  refine (zt1 k a n c xs false (dbox w k a n c) (HD.out.below (zf2 w k a n c)) HM.out).mono ?_
  rintro e w1 ⟨rfl, hb1⟩
  have B1 := Zt HBX hb1
  clear hb1
  go_wp2
  go_ret
  exact ⟨by rw [HU.out]; rfl, B1.out⟩
theorem zw5 (i : Nat) (g0 g1 : Nat) (a : Option Addr) (n c : Nat) (no : Int) (xs : List FP) (b : Bool) (w : World) (hd : zf0 w a n c xs) (hi : i < n) (h0 : w.cell? ⟨g0, 0, none⟩ = some (.slice a n c)) (h1 : w.cell? ⟨g1, 0, none⟩ = some (.int .i64 no)) (hb : decide (no <= ((FP.files xs).getD i D.nof).1) = b) :
  Calls Tryz.prog 232 #[.int .i64 i, .pointer (some ⟨g0, 0, none⟩), .pointer (some ⟨g1, 0, none⟩)] w fun e w' => e = .returned (.bool b) /\ Below w.heap.size w w' := by
 obtain ⟨b1, o1, no1, a1, n1, c1, B1, s1, rfl, hb1, hx, p0, p1, p2, hok⟩ := hd.2.1.at (i := i) (by rw [hd.1]; exact hi)
 have hcap := hd.caps
 have hml : maxLen <= 9223372036854775807 := by decide
 rw [FP.files_at hx] at hb
 have HB : Hid (b = decide (no <= no1)) := Zh (by rw [<- hb]; rfl)
 clear hd hx hok hb
 go_enter Tryz.func232, Tryz.ntmps232
 go_wp2_with fail
 go_quiet (fail)
 go_wp2
 go_ret
 exact ⟨by rw [HB.out]; rfl, zad _ _ _⟩
theorem zw6 (g0 g1 : Nat) (a : Option Addr) (n c : Nat) (no : Int) (xs : List FP) (w : World) (hs : D.sorted (FP.files xs)) (hd : zf0 w a n c xs) (h9 : n <= 1000) (h0 : w.cell? ⟨g0, 0, none⟩ = some (.slice a n c)) (h1 : w.cell? ⟨g1, 0, none⟩ = some (.int .i64 no)) :
  Calls Tryz.prog 231 #[.int .i64 n, .func (.func 232) #[] #[.pointer (some ⟨g0, 0, none⟩), .pointer (some ⟨g1, 0, none⟩)]] w fun e w' => ∃ p : Nat, e = .returned (.int .i64 p) /\ Hid (D.isPlace (FP.files xs) no p) /\ Below w.heap.size w w' := by
 have hg0 : g0 < w.heap.size := World.block_lt_of_cell? (a := ⟨g0, 0, none⟩) _ h0
 have hg1 : g1 < w.heap.size := World.block_lt_of_cell? (a := ⟨g1, 0, none⟩) _ h1
 have HS := Zh hs
 have HD := Zh hd
 have HL : Hid ((FP.files xs).length = n) := Zh (by rw [FP.files_len, hd.1])
 have H0 := Zh h0
 have H1 := Zh h1
 clear hs hd h0 h1
 go_enter Tryz.func231, Tryz.ntmps231
 go_wp2_with fail
 go_loopw [5, 6] (fun x y wr => ∃ (i j : Nat), x = .int .i64 i /\ y = .int .i64 j /\ i <= j /\ j <= n /\ Hid (∀ k, k < i -> ((FP.files xs).getD k D.nof).1 < no) /\ Hid (∀ k, j <= k -> k < n -> no <= ((FP.files xs).getD k D.nof).1) /\ Below w.heap.size w wr) (fun x y _ => (intOf y).toNat - (intOf x).toNat)
 case atStart => exact ⟨0, n, rfl, rfl, by omega, by omega, Zh (fun k hk => by omega), Zh (fun k h1 h2 => by omega), Below.refl _ _⟩
 case round =>
  obtain ⟨i, j, rfl, rfl, hij, hjn, HLo, HHi, hB⟩ := hrel
  by_cases hlt : i < j
  ·obtain ⟨h, hh⟩ : ∃ h, h = (i + j) / 2 := ⟨_, rfl⟩
   have hb1 : i <= h /\ h < j := by omega
   obtain ⟨b, hb⟩ : ∃ b, decide (no <= ((FP.files xs).getD h D.nof).1) = b := ⟨_, rfl⟩
   have HBb := Zh hb
   have he : ((i : Int) + (j : Int)) / 2 = (h : Int) := by omega
   clear hb hh
   go_wp2_with fail
   refine (zw5 h g0 g1 a n c no xs b wr (HD.out.below hB) (by omega) ((hB.cell (p := ⟨g0, 0, none⟩) hg0).trans H0.out) ((hB.cell (p := ⟨g1, 0, none⟩) hg1).trans H1.out) HBb.out).mono ?_
   rintro e w2 ⟨rfl, hb2⟩
   have B2 := Zh (hB.trans (hb2.mono hB.size))
   clear hb2
   cases b with
   | false =>
    have HLo2 : Hid (∀ k, k < h + 1 -> ((FP.files xs).getD k D.nof).1 < no) := Zh (fun k hk => by
     have h1 := of_decide_eq_false HBb.out
     by_cases h2 : k = h
     ·subst h2; omega
     ·have h3 : ((FP.files xs).getD k D.nof).1 < ((FP.files xs).getD h D.nof).1 := D.sorted_lt HS.out (by omega) (by rw [HL.out]; omega)
      omega)
    go_wp2
    go_roundw
    case rel => exact ⟨h + 1, j, by go_num, rfl, by omega, by omega, HLo2, HHi, B2.out⟩
    case measure => simp [intOf]; omega
   | true =>
    have HHi2 : Hid (∀ k, h <= k -> k < n -> no <= ((FP.files xs).getD k D.nof).1) := Zh (fun k hk hk2 => by
     have h1 := of_decide_eq_true HBb.out
     by_cases h2 : k = h
     ·subst h2; omega
     ·have h3 : ((FP.files xs).getD h D.nof).1 < ((FP.files xs).getD k D.nof).1 := D.sorted_lt HS.out (by omega) (by rw [HL.out]; omega)
      omega)
    go_wp2
    go_roundw
    case rel => exact ⟨i, h, rfl, rfl, by omega, by omega, HLo, HHi2, B2.out⟩
    case measure => simp [intOf]; omega
  ·obtain rfl : i = j := by omega
   have hd : decide (i < i) = false := by simp
   have HP : Hid (D.isPlace (FP.files xs) no i) := Zh ⟨by rw [HL.out]; exact hjn, HLo.out, fun k h1 h2 => HHi.out k h1 (by rw [HL.out] at h2; exact h2)⟩
   go_wp2
   go_ret
   exact ⟨i, rfl, HP, hB⟩
theorem zv1 (a : Option Addr) (n c : Nat) (no : Int) (xs : List FP) (w : World) (hs : D.sorted (FP.files xs)) (hd : zf0 w a n c xs) (h9 : n <= 1000) :
  Calls Tryz.prog 165 #[.slice a n c, .int .i64 no] w fun e w' => ∃ p : Nat, e = .returned (.int .i64 p) /\ Hid (D.isPlace (FP.files xs) no p) /\ Below w.heap.size w w' := by
 have HS := Zh hs
 have HD := Zh hd
 clear hs hd
 go_enter Tryz.func165, Tryz.ntmps165
 go_wp2_with fail
 have hb0 : Below w.heap.size w (w.alloc (.cells #[.slice a n c] 22)) := (Below.refl _ w).alloc (Nat.le_refl _) _
 have hb : Below w.heap.size w ((w.alloc (.cells #[.slice a n c] 22)).alloc (.cells #[.int .i64 no] 3)) := hb0.alloc (by simp) _
 have hz : (w.alloc (.cells #[.slice a n c] 22)).heap.size = w.heap.size + 1 := by simp
 refine (zw6 w.heap.size (w.heap.size + 1) a n c no xs _ HS.out (HD.out.below hb) h9 (((Blok.new w 22 #[.slice a n c]).alloc _).cell 0) (by rw [<- hz]; exact (Blok.new (w.alloc (.cells #[.slice a n c] 22)) 3 #[.int .i64 no]).cell 0)).mono ?_
 rintro e w1 ⟨p, rfl, HP, hb1⟩
 have B1 := Zh (hb.trans (hb1.mono hb.size))
 clear hb1 hb hb0 hz
 go_wp2
 go_ret
 exact ⟨p, rfl, HP, B1.out⟩
theorem zyu {xs : List FP} {k no : Int} (h : ¬ D.may (k, FP.files xs)) : D.find (k, FP.files xs) no = -1 := by unfold D.find; rw [if_neg h]
theorem zux (k : Int) (a : Option Addr) (n c : Nat) (no : Int) (xs : List FP) (r : Int) (w : World) (hd : zf0 w a n c xs) (hr : D.find (k, FP.files xs) no = r) :
  Calls Tryz.prog 164 #[.agg #[.int .i64 k, .slice a n c], .int .i64 no] w fun e w' => e = .returned (.int .i64 r) /\ Below w.heap.size w w' := by
 have HBX := Zh (zf2 w k a n c)
 have HD := Zh hd
 have hcap := hd.caps
 have hml : maxLen <= 9223372036854775807 := by decide
 by_cases hm : D.may (k, FP.files xs)
 ·have HM := Zh (decide_eq_true hm)
  have HS : Hid (D.sorted (FP.files xs)) := Zh hm.2.2.1
  have h12 : n <= 1000 := by have h1 := hm.1.2.2; simp only [FP.files_len, hd.1] at h1; omega
  have HR : Hid ((match D.idx (FP.files xs) no with | some i => (i : Int) | none => -1) = r) := Zh (by rw [<- hr]; unfold D.find; rw [if_pos hm]; cases D.idx (FP.files xs) no <;> rfl)
  have HL : Hid ((FP.files xs).length = n) := Zh (by rw [FP.files_len, hd.1])
  clear hd hr hm
  go_enter Tryz.func164, Tryz.ntmps164
  go_wp2_with fail
  refine (zt1 k a n c xs true (dbox w k a n c) (HD.out.below (zf2 w k a n c)) HM.out).mono ?_
  rintro e w1 ⟨rfl, hb1⟩
  have B1 := Zt HBX hb1
  have KB := Zh ((zt2 w k a n c).on hb1)
  clear hb1
  have k1 := dk1 KB.out
  go_wp2_with fail
  refine (zv1 a n c no xs w1 HS.out (HD.out.below B1.out) h12).mono ?_
  rintro e w2 ⟨p, rfl, HP, hb2⟩
  have B2 := Zt B1 hb2
  have KB2 := Zh (KB.out.on hb2)
  clear hb2 k1
  have k1 := dk1 KB2.out
  have hp := HP.out.1
  rw [HL.out] at hp
  by_cases hpn : p = n
  ·subst hpn
   have HF : Hid (r = -1) := Zh (by
    rw [<- HR.out, D.idx_place HS.out HP.out, if_neg (by rw [HL.out]; omega)])
   go_wp2
   go_ret
   exact ⟨by rw [HF.out]; rfl, B2.out⟩
  ·obtain ⟨b1, o1, no1, a1, n1, c1, B1', s1, rfl, hb1, hx, p0, p1, p2, hok⟩ := ((HD.out.below B2.out).2.1).at (i := p) (by rw [HD.out.1]; omega)
   have hlt : p < n := by omega
   have hne : ((p : Int) == (n : Int)) = false := by simp; omega
   have hfx := FP.files_at hx
   by_cases hno : no1 = no
   ·subst hno
    have HF : Hid (r = (p : Int)) := Zh (by
     rw [<- HR.out, D.idx_place HS.out HP.out, if_pos ⟨by rw [HL.out]; exact hlt, by rw [hfx]; rfl⟩])
    clear hx hok hfx p1 p2
    go_wp2
    go_ret
    exact ⟨by rw [HF.out]; rfl, B2.out⟩
   ·have HF : Hid (r = -1) := Zh (by
     rw [<- HR.out, D.idx_place HS.out HP.out, if_neg (by rw [hfx]; exact fun h => hno h.2)])
    have hnn : (no1 != no) = true := by simp [hno]
    clear hx hok hfx p1 p2
    go_wp2
    go_ret
    exact ⟨by rw [HF.out]; rfl, B2.out⟩
 ·have HM := Zh (decide_eq_false hm)
  have HF : Hid (r = -1) := Zh (by rw [<- hr, zyu hm])
  clear hd hr hm
  go_enter Tryz.func164, Tryz.ntmps164
  go_wp2_with fail
  refine (zt1 k a n c xs false (dbox w k a n c) (HD.out.below (zf2 w k a n c)) HM.out).mono ?_
  rintro e w1 ⟨rfl, hb1⟩
  have B1 := Zt HBX hb1
  clear hb1
  go_wp2
  go_ret
  exact ⟨by rw [HF.out]; rfl, B1.out⟩
def zur (d : D.T) (no : Int) : Int × Int := if D.may d then (match D.idx d.2 no with | some i => ((i : Int), 0) | none => (0, 5)) else (0, 1)
theorem zuo (k : Int) (a : Option Addr) (n c : Nat) (no : Int) (xs : List FP) (i e0 : Int) (w : World) (hd : zf0 w a n c xs) (hr : zur (k, FP.files xs) no = (i, e0)) :
  Calls Tryz.prog 107 #[.agg #[.int .i64 k, .slice a n c], .int .i64 no] w fun e w' => e = .returned (.tuple #[.int .i64 i, .int .i64 e0]) /\ Below w.heap.size w w' := by
 have HBX := Zh (zf2 w k a n c)
 have HD := Zh hd
 obtain ⟨f, hf⟩ : ∃ f, D.find (k, FP.files xs) no = f := ⟨_, rfl⟩
 obtain ⟨m, hm⟩ : ∃ m, decide (D.may (k, FP.files xs)) = m := ⟨_, rfl⟩
 have HF := Zh hf
 have HM := Zh hm
 have HR : Hid ((m = false /\ i = 0 /\ e0 = 1) \/ (m = true /\ f < 0 /\ i = 0 /\ e0 = 5) \/ (m = true /\ ¬ f < 0 /\ i = f /\ e0 = 0)) := Zh (by
  unfold zur at hr
  unfold D.find at hf
  by_cases h : D.may (k, FP.files xs)
  ·rw [if_pos h] at hr hf
   have hm' : m = true := by rw [<- hm]; exact decide_eq_true h
   cases hi : D.idx (FP.files xs) no with
   | none => simp only [hi] at hr hf; simp only [Prod.mk.injEq] at hr; exact .inr (.inl ⟨hm', by omega, hr.1.symm, hr.2.symm⟩)
   | some j => simp only [hi] at hr hf; simp only [Prod.mk.injEq] at hr; exact .inr (.inr ⟨hm', by omega, by omega, hr.2.symm⟩)
  ·rw [if_neg h] at hr hf
   simp only [Prod.mk.injEq] at hr
   exact .inl ⟨by rw [<- hm]; exact decide_eq_false h, hr.1.symm, hr.2.symm⟩)
 clear hd hr hf hm
 go_enter Tryz.func107, Tryz.ntmps107
 go_wp2_with fail
 refine (zux k a n c no xs f (dbox w k a n c) (HD.out.below (zf2 w k a n c)) HF.out).mono ?_
 rintro e w1 ⟨rfl, hb1⟩
 have B1 := Zt HBX hb1
 have KB := Zh ((zt2 w k a n c).on hb1)
 clear hb1
 have k0 := dk0 KB.out
 have k1 := dk1 KB.out
 go_wp2_with fail
 refine (zt1 k a n c xs m w1 (HD.out.below B1.out) HM.out).mono ?_
 rintro e w2 ⟨rfl, hb2⟩
 have B2 := Zt B1 hb2
 clear hb2 k0 k1
 rcases HR.out with ⟨rfl, rfl, rfl⟩ | ⟨rfl, hf, rfl, rfl⟩ | ⟨rfl, hf, rfl, rfl⟩
 ·go_wp2
  go_ret2
  exact ⟨rfl, B2.out⟩
 ·have d1 : decide (f < 0) = true := by simp; omega
  go_wp2
  go_ret2
  exact ⟨rfl, B2.out⟩
 ·have d1 : decide (i < 0) = false := by simp; omega
  go_wp2
  go_ret2
  exact ⟨rfl, B2.out⟩
end Go.Proofs.YtnbkkjcmblfhpaaGreat
namespace Go.Proofs.YtnbkkjcmblfhpaaGreat
set_option maxHeartbeats 400000
set_option maxRecDepth 100000
open Go.RowKit
theorem zwq {d : D.T} {no i e : Int} (h : zur d no = (i, e)) (he : e ≠ 0) (g : D.F -> Int × D.F) : D.upd d no g = (d, e) := by
 unfold zur at h
 unfold D.upd
 split at h
 ·rename_i hm
  rw [if_pos hm]
  cases hi : D.idx d.2 no with
  | none => simp only [hi, Prod.mk.injEq] at h ⊢; exact ⟨trivial, h.2⟩
  | some j => simp only [hi, Prod.mk.injEq] at h; exact absurd h.2.symm he
 ·rename_i hm
  rw [if_neg hm]
  simp only [Prod.mk.injEq] at h ⊢; exact ⟨trivial, h.2⟩
theorem zve {d : D.T} {no i : Int} (h : zur d no = (i, 0)) : D.may d /\ ∃ j : Nat, i = (j : Int) /\ D.idx d.2 no = some j := by
 unfold zur at h
 split at h
 ·rename_i hm
  cases hi : D.idx d.2 no with
  | none => simp [hi] at h
  | some j => simp only [hi, Prod.mk.injEq] at h; exact ⟨hm, j, h.1.symm, rfl⟩
 ·simp at h
theorem zuy (xs : List FP) (j : Nat) (y : FP) (h : j < xs.length) : FP.files (xs.take j ++ [y] ++ xs.drop (j + 1)) = (FP.files xs).set j (FP.file y) := by
 rw [List.set_eq_take_append_cons_drop, if_pos (by rw [FP.files_len]; exact h), FP.files_append, FP.files_append, FP.files_take, FP.files_drop]
 simp [FP.files]
theorem zv2 {l : List D.F} (hs : D.small l) (j : Nat) (f : D.F) (hf : f.2.1.length <= 70000) : D.small (l.set j f) := by
 refine ⟨by rw [List.length_set]; exact hs.1, fun g hg => ?_⟩
 rcases List.mem_or_eq_of_mem_set hg with h | rfl
 ·exact hs.2 g h
 ·exact hf
theorem zvq {w : World} {no : Int} {a : Option Addr} {n c : Nat} {B : List Int} {s : Int} (h : FP.ok w ⟨no, a, n, c, B, s⟩) : zf0 (w.alloc (.cells #[.int .i64 no, .slice a n c, .int .i64 s] 53)) (some ⟨w.heap.size, 0, none⟩) 1 1 [⟨no, a, n, c, B, s⟩] := by
 have hb := (Below.refl w.heap.size w).alloc (Nat.le_refl _) (.cells #[.int .i64 no, .slice a n c, .int .i64 s] 53)
 have hB := Blok.new w 53 #[.int .i64 no, .slice a n c, .int .i64 s]
 refine ⟨rfl, ⟨⟨by simp, by simp [maxLen]⟩, ?_, .inr ⟨w.heap.size, 0, rfl, hB.lt, ?_⟩⟩, fun h => by cases h⟩
 ·intro x hx
  simp only [List.mem_singleton] at hx
  rw [hx]
  exact h.below hb
 ·intro i u hi
  rw [Nat.zero_add, hB.cell i]
  simpa [FP.flat, FP.cells] using hi
theorem zyb (k : Int) (a : Option Addr) (n c : Nat) (no : Int) (xs : List FP) (w : World) (hd : zf0 w a n c xs) (hs : D.small (FP.files xs)) :
  Calls Tryz.prog 87 #[.agg #[.int .i64 k, .slice a n c], .int .i64 no] w (RetE any (D.sync (k, FP.files xs) no) w) := by
 have HD := Zh hd
 have HS := Zh hs
 have hcap := hd.caps
 have hml : maxLen <= 9223372036854775807 := by decide
 have KA := Zh (zf7 w k a n c)
 have KR := Zh (zf4 w k a n c)
 have X0 : Hid (Below (dbn w k a n c).heap.size (dbn w k a n c) (dbn w k a n c)) := Zh (Below.refl _ _)
 have h14 : n <= 14 := by have h1 := hs.1; simp only [FP.files_len, hd.1] at h1; exact h1
 obtain ⟨i, e0, hk⟩ : ∃ i e, zur (k, FP.files xs) no = (i, e) := ⟨_, _, rfl⟩
 have HK := Zh hk
 clear hd hs hk
 by_cases he : e0 = 0
 ·subst he
  obtain ⟨hm, j, rfl, hj⟩ := zve HK.out
  obtain ⟨hj1, hj2⟩ := D.idx_some hj
  have hjn : j < n := by rw [FP.files_len, HD.out.1] at hj1; exact hj1
  have HLT : Hid (j < xs.length) := Zh (by rw [HD.out.1]; exact hjn)
  have HU : Hid (D.sync (k, FP.files xs) no = ((k, (FP.files xs).set j (((FP.files xs).getD j D.nof).1, ((FP.files xs).getD j D.nof).2.1, ((((FP.files xs).getD j D.nof).2.1.length : Nat) : Int))), 0)) := Zh (by
   unfold D.sync D.upd
   rw [if_pos hm, hj]; rfl)
  clear hm hj hj1 hj2
  go_enter Tryz.func87, Tryz.ntmps87
  go_wp2_with fail
  refine (zuo k a n c no xs _ _ (dbn w k a n c) (HD.out.below (zf5 X0.out)) HK.out).mono ?_
  rintro e w1 ⟨rfl, hb1⟩
  have X1 := Zt X0 hb1
  have KA1 := Zh ((zf7 w k a n c).on X1.out)
  have KR1 := Zh ((zf4 w k a n c).on X1.out)
  clear hb1
  have k0 := dk0 KA1.out
  have k1 := dk1 KA1.out
  obtain ⟨b1, o1, no1, a1, n1, c1, L1, s1, rfl, hb1, hx, p0, p1, p2, hok⟩ := (((HD.out.below (zf5 X1.out))).2.1).at (i := j) (by rw [HD.out.1]; exact hjn)
  have HX := Zh hx
  have HOK := Zh hok
  clear hx hok
  have ka0 : ∀ o, (w1.alloc o).cell? ⟨w.heap.size, 0, none⟩ = some (.int .i64 k) := fun o => dk0 (KA1.out.alloc o)
  have ka1 : ∀ o, (w1.alloc o).cell? ⟨w.heap.size, 1, none⟩ = some (.slice (some ⟨b1, o1, none⟩) n c) := fun o => dk1 (KA1.out.alloc o)
  go_wp2_with fail
  have HY : zf0 ((w1.alloc (.cells #[.int .i64 no1, .slice a1 n1 c1, .int .i64 n1] 53)).alloc (.cells #[.int .i64 no1, .slice a1 n1 c1, .int .i64 n1] 53)) (some ⟨w1.heap.size + 1, 0, none⟩) 1 1 [⟨no1, a1, n1, c1, L1, n1⟩] := by
   have h1 := zvq (w := w1.alloc (.cells #[.int .i64 no1, .slice a1 n1 c1, .int .i64 n1] 53)) (no := no1) (a := a1) (n := n1) (c := c1) (B := L1) (s := n1) (FP.ok.below HOK.out ((Below.refl _ w1).alloc (Nat.le_refl _) _))
   rwa [World.size_alloc] at h1
  have XA := (X1.out.alloc X1.out.size (.cells #[.int .i64 no1, .slice a1 n1 c1, .int .i64 n1] 53))
  have XB := XA.alloc XA.size (.cells #[.int .i64 no1, .slice a1 n1 c1, .int .i64 n1] 53)
  have hsm : D.small (FP.files (xs.take j ++ [⟨no1, a1, n1, c1, L1, n1⟩] ++ xs.drop (j + 1))) := by
   rw [zuy xs j _ HLT.out]
   refine zv2 HS.out j _ ?_
   have h1 := HS.out.2 (FP.file ⟨no1, a1, n1, c1, L1, s1⟩) (List.mem_map.2 ⟨_, List.mem_of_getElem? HX.out, rfl⟩)
   exact h1
  refine (zvp k (some ⟨b1, o1, none⟩) n c j (j + 1) _ _ _ 1 1 xs [⟨no1, a1, n1, c1, L1, n1⟩] _ rfl (by simp) (HD.out.below (zf5 XB)) HY (by omega) (by omega) (by omega) hsm).mono ?_
  rintro e w2 ⟨a3, n3, c3, zs, rfl, HD3, HF3, HX3, hb2⟩
  clear k0 k1 p0 p1 p2
  have XF := Zh (Below.trans XB (hb2.mono (Below.size XB)))
  have KRF := Zh ((zf4 w k (some ⟨b1, o1, none⟩) n c).on XF.out)
  have hsz := zuk XB
  have hfar : dFar (w.heap.size + 1) a3 zs := HX3.out _ (by omega) trivial
  have hfb : ∀ b, b < w.heap.size -> dFar b a3 zs := fun b hb => HX3.out b (by omega) trivial
  have r0 := dk0 KRF.out
  have r1 := dk1 KRF.out
  have f0 := KRF.out.frozen 0
  have f1 := KRF.out.frozen 1
  clear hb2 hsz ka0 ka1 HY hsm
  go_wp2
  refine bodyPost_ret (zt0 (x := .int .i64 0) (g := w.heap.size + 1) rfl k a3 n3 c3 (by kernel_rfl) (by kernel_rfl) KRF.out.putD) (by kernel_rfl) ?_
  exact ⟨a3, n3, c3, zs, by rw [HU.out], Zh ((HD3.out.set hfar 0 _).set hfar 1 _), Zh (by rw [HF3.out, HU.out, zuy xs j _ HLT.out, FP.files_at HX.out]; simp [FP.file, HOK.out.1]), Zh fun b hb _ => hfb b hb, zf1 (zf5 XF.out) (Nat.le_succ _) _ _ _ _⟩
 ·have HU : Hid (D.sync (k, FP.files xs) no = ((k, FP.files xs), e0)) := Zh (by unfold D.sync; exact zwq HK.out he _)
  have hne : (e0 != 0) = true := by simpa using he
  clear he
  go_enter Tryz.func87, Tryz.ntmps87
  go_wp2_with fail
  refine (zuo k a n c no xs _ _ (dbn w k a n c) (HD.out.below (zf5 X0.out)) HK.out).mono ?_
  rintro e w1 ⟨rfl, hb1⟩
  have X1 := Zt X0 hb1
  have KA1 := Zh ((zf7 w k a n c).on X1.out)
  have KR1 := Zh ((zf4 w k a n c).on X1.out)
  clear hb1
  have k0 := dk0 KA1.out
  have k1 := dk1 KA1.out
  go_wp2_with fail
  refine (zt7 k a n c xs w1 (HD.out.below (zf5 X1.out)) HS.out).mono ?_
  rintro e w2 ⟨a3, n3, c3, zs, rfl, HD3, HF3, HX3, hb2⟩
  clear k0 k1
  have XF := Zh (Below.trans X1.out (hb2.mono (Below.size X1.out)))
  have KRF := Zh ((zf4 w k a n c).on XF.out)
  have hsz := zuk X1.out
  have hfar : dFar (w.heap.size + 1) a3 zs := HX3.out _ (by omega) trivial
  have hfb : ∀ b, b < w.heap.size -> dFar b a3 zs := fun b hb => HX3.out b (by omega) trivial
  have r0 := dk0 KRF.out
  have r1 := dk1 KRF.out
  have f0 := KRF.out.frozen 0
  have f1 := KRF.out.frozen 1
  clear hb2 hsz
  go_wp2
  refine bodyPost_ret (zt0 (x := .int .i64 e0) (g := w.heap.size + 1) rfl k a3 n3 c3 (by kernel_rfl) (by kernel_rfl) KRF.out.putD) (by kernel_rfl) ?_
  exact ⟨a3, n3, c3, zs, by rw [HU.out], Zh ((HD3.out.set hfar 0 _).set hfar 1 _), Zh (by rw [HF3.out, HU.out]), Zh fun b hb _ => hfb b hb, zf1 (zf5 XF.out) (Nat.le_succ _) _ _ _ _⟩
end Go.Proofs.YtnbkkjcmblfhpaaGreat
namespace Go.Proofs.YtnbkkjcmblfhpaaGreat
set_option maxHeartbeats 400000
set_option maxRecDepth 100000
open Go.RowKit
theorem zyc (k : Int) (a : Option Addr) (n c : Nat) (no : Int) (xs : List FP) (w : World) (hd : zf0 w a n c xs) (hs : D.small (FP.files xs)) :
  Calls Tryz.prog 85 #[.agg #[.int .i64 k, .slice a n c], .int .i64 no] w (RetE any (D.make (k, FP.files xs) no) w) := by
 have HD := Zh hd
 have HS := Zh hs
 have hcap := hd.caps
 have hml : maxLen <= 9223372036854775807 := by decide
 have KA := Zh (zf7 w k a n c)
 have KR := Zh (zf4 w k a n c)
 have X0 : Hid (Below (dbn w k a n c).heap.size (dbn w k a n c) (dbn w k a n c)) := Zh (Below.refl _ _)
 have h14 : n <= 14 := by have h1 := hs.1; simp only [FP.files_len, hd.1] at h1; exact h1
 by_cases hm : D.may (k, FP.files xs)
 ·have HM := Zh (decide_eq_true hm)
  by_cases hn : 1 <= no /\ no <= 1073741824
  ·have HI := Zh (decide_eq_true hn)
   obtain ⟨f, hff⟩ : ∃ f, D.find (k, FP.files xs) no = f := ⟨_, rfl⟩
   have HF := Zh hff
   obtain ⟨bi, hbi⟩ : ∃ b, (D.idx (FP.files xs) no).isSome = b := ⟨_, rfl⟩
   have HFI := Zh hbi
   have HFN : Hid ((bi = true /\ 0 <= f) \/ (bi = false /\ f < 0)) := Zh (by
    unfold D.find at hff
    rw [if_pos hm] at hff
    rw [<- hbi]
    cases hi : D.idx (FP.files xs) no with
    | none => simp only [hi] at hff; exact .inr ⟨rfl, by omega⟩
    | some j => simp only [hi] at hff; exact .inl ⟨rfl, by omega⟩)
   clear hff hbi
   by_cases hf : bi = true
   ·have HU : Hid (D.make (k, FP.files xs) no = ((k, FP.files xs), 11)) := Zh (by
     unfold D.make
     rw [if_pos ⟨hm, hn⟩]
     simp only
     rw [HFI.out, if_pos hf])
    have d1 : decide (f < 0) = false := by rcases HFN.out with ⟨h1, h2⟩ | ⟨h1, h2⟩ <;> simp_all
    have d2 : decide (0 <= f) = true := by rcases HFN.out with ⟨h1, h2⟩ | ⟨h1, h2⟩ <;> simp_all
    clear hd hs hm hn hf
    go_enter Tryz.func85, Tryz.ntmps85
    go_wp2_with fail
    refine (zt1 k a n c xs true (dbn w k a n c) (HD.out.below (zf5 X0.out)) HM.out).mono ?_
    rintro e w1 ⟨rfl, hb1⟩
    have X1 := Zt X0 hb1
    have KA1 := Zh ((zf7 w k a n c).on X1.out)
    have KR1 := Zh ((zf4 w k a n c).on X1.out)
    clear hb1
    have k0 := dk0 KA1.out
    have k1 := dk1 KA1.out
    go_wp2_with fail
    refine (zt8 no true _ HI.out).mono ?_
    rintro e w' ⟨rfl, rfl⟩
    go_wp2_with fail
    refine (zux k a n c no xs f w1 (HD.out.below (zf5 X1.out)) HF.out).mono ?_
    rintro e w2 ⟨rfl, hb2⟩
    have X2 := Zt X1 hb2
    have KA2 := Zh ((zf7 w k a n c).on X2.out)
    have KR2 := Zh ((zf4 w k a n c).on X2.out)
    clear hb2
    clear k0 k1
    have k0 := dk0 KA2.out
    have k1 := dk1 KA2.out
    go_wp2_with fail
    refine (zt7 k a n c xs w2 (HD.out.below (zf5 X2.out)) HS.out).mono ?_
    rintro e w3 ⟨a3, n3, c3, zs, rfl, HD3, HF3, HX3, hb3⟩
    clear k0 k1
    have XF := Zh (Below.trans X2.out (hb3.mono (Below.size X2.out)))
    have KRF := Zh ((zf4 w k a n c).on XF.out)
    have hsz := zuk X2.out
    have hfar : dFar (w.heap.size + 1) a3 zs := HX3.out _ (by omega) trivial
    have hfb : ∀ b, b < w.heap.size -> dFar b a3 zs := fun b hb => HX3.out b (by omega) trivial
    have r0 := dk0 KRF.out
    have r1 := dk1 KRF.out
    have f0 := KRF.out.frozen 0
    have f1 := KRF.out.frozen 1
    clear hb3 hsz
    go_wp2
    refine bodyPost_ret (zt0 (x := .int .i64 11) (g := w.heap.size + 1) rfl k a3 n3 c3 (by kernel_rfl) (by kernel_rfl) KRF.out.putD) (by kernel_rfl) ?_
    exact ⟨a3, n3, c3, zs, by rw [HU.out], Zh ((HD3.out.set hfar 0 _).set hfar 1 _), Zh (by rw [HF3.out, HU.out]), Zh fun b hb _ => hfb b hb, zf1 (zf5 XF.out) (Nat.le_succ _) _ _ _ _⟩
   ·by_cases h12 : n = 12
    ·have HU : Hid (D.make (k, FP.files xs) no = ((k, FP.files xs), 9)) := Zh (by
      unfold D.make
      rw [if_pos ⟨hm, hn⟩]
      simp only
      rw [HFI.out, if_neg hf, if_pos (by rw [FP.files_len, HD.out.1, h12])])
     have d1 : decide (f < 0) = true := by rcases HFN.out with ⟨h1, h2⟩ | ⟨h1, h2⟩ <;> simp_all
     have d2 : decide (0 <= f) = false := by rcases HFN.out with ⟨h1, h2⟩ | ⟨h1, h2⟩ <;> simp_all
     have d3 : ((n : Int) == 12) = true := by simp; omega
     clear hd hs hm hn hf h12
     go_enter Tryz.func85, Tryz.ntmps85
     go_wp2_with fail
     refine (zt1 k a n c xs true (dbn w k a n c) (HD.out.below (zf5 X0.out)) HM.out).mono ?_
     rintro e w1 ⟨rfl, hb1⟩
     have X1 := Zt X0 hb1
     have KA1 := Zh ((zf7 w k a n c).on X1.out)
     have KR1 := Zh ((zf4 w k a n c).on X1.out)
     clear hb1
     have k0 := dk0 KA1.out
     have k1 := dk1 KA1.out
     go_wp2_with fail
     refine (zt8 no true _ HI.out).mono ?_
     rintro e w' ⟨rfl, rfl⟩
     go_wp2_with fail
     refine (zux k a n c no xs f w1 (HD.out.below (zf5 X1.out)) HF.out).mono ?_
     rintro e w2 ⟨rfl, hb2⟩
     have X2 := Zt X1 hb2
     have KA2 := Zh ((zf7 w k a n c).on X2.out)
     have KR2 := Zh ((zf4 w k a n c).on X2.out)
     clear hb2
     clear k0 k1
     have k0 := dk0 KA2.out
     have k1 := dk1 KA2.out
     go_wp2_with fail
     refine (zt7 k a n c xs w2 (HD.out.below (zf5 X2.out)) HS.out).mono ?_
     rintro e w3 ⟨a3, n3, c3, zs, rfl, HD3, HF3, HX3, hb3⟩
     clear k0 k1
     have XF := Zh (Below.trans X2.out (hb3.mono (Below.size X2.out)))
     have KRF := Zh ((zf4 w k a n c).on XF.out)
     have hsz := zuk X2.out
     have hfar : dFar (w.heap.size + 1) a3 zs := HX3.out _ (by omega) trivial
     have hfb : ∀ b, b < w.heap.size -> dFar b a3 zs := fun b hb => HX3.out b (by omega) trivial
     have r0 := dk0 KRF.out
     have r1 := dk1 KRF.out
     have f0 := KRF.out.frozen 0
     have f1 := KRF.out.frozen 1
     clear hb3 hsz
     go_wp2
     refine bodyPost_ret (zt0 (x := .int .i64 9) (g := w.heap.size + 1) rfl k a3 n3 c3 (by kernel_rfl) (by kernel_rfl) KRF.out.putD) (by kernel_rfl) ?_
     exact ⟨a3, n3, c3, zs, by rw [HU.out], Zh ((HD3.out.set hfar 0 _).set hfar 1 _), Zh (by rw [HF3.out, HU.out]), Zh fun b hb _ => hfb b hb, zf1 (zf5 XF.out) (Nat.le_succ _) _ _ _ _⟩
    ·have HU : Hid (D.make (k, FP.files xs) no = ((k, (FP.files xs).filter (fun f => decide (f.1 < no)) ++ (no, [], 0) :: (FP.files xs).filter (fun f => decide (no < f.1))), 0)) := Zh (by
      unfold D.make
      rw [if_pos ⟨hm, hn⟩]
      simp only
      rw [HFI.out, if_neg hf, if_neg (by rw [FP.files_len, HD.out.1]; exact h12)])
     have HSO : Hid (D.sorted (FP.files xs)) := Zh hm.2.2.1
     have hn12 : n <= 11 := by have h1 := hm.1.2.2; simp only [FP.files_len, HD.out.1] at h1; omega
     have HNI : Hid (D.idx (FP.files xs) no = none) := Zh (by have h1 := HFI.out; cases hi : D.idx (FP.files xs) no with | none => rfl | some j => rw [hi] at h1; simp only [Option.isSome_some] at h1; exact absurd h1.symm hf)
     have d1 : decide (f < 0) = true := by rcases HFN.out with ⟨h1, h2⟩ | ⟨h1, h2⟩ <;> simp_all
     have d2 : decide (0 <= f) = false := by rcases HFN.out with ⟨h1, h2⟩ | ⟨h1, h2⟩ <;> simp_all
     have d3 : ((n : Int) == 12) = false := by simp; omega
     clear hd hs hm hn hf
     go_enter Tryz.func85, Tryz.ntmps85
     go_wp2_with fail
     refine (zt1 k a n c xs true (dbn w k a n c) (HD.out.below (zf5 X0.out)) HM.out).mono ?_
     rintro e w1 ⟨rfl, hb1⟩
     have X1 := Zt X0 hb1
     have KA1 := Zh ((zf7 w k a n c).on X1.out)
     have KR1 := Zh ((zf4 w k a n c).on X1.out)
     clear hb1
     have k0 := dk0 KA1.out
     have k1 := dk1 KA1.out
     go_wp2_with fail
     refine (zt8 no true _ HI.out).mono ?_
     rintro e w' ⟨rfl, rfl⟩
     go_wp2_with fail
     refine (zux k a n c no xs f w1 (HD.out.below (zf5 X1.out)) HF.out).mono ?_
     rintro e w2 ⟨rfl, hb2⟩
     have X2 := Zt X1 hb2
     have KA2 := Zh ((zf7 w k a n c).on X2.out)
     have KR2 := Zh ((zf4 w k a n c).on X2.out)
     clear hb2
     clear k0 k1
     have k0 := dk0 KA2.out
     have k1 := dk1 KA2.out
     go_wp2_with fail
     refine (zv1 a n c no xs w2 HSO.out (HD.out.below (zf5 X2.out)) (by omega)).mono ?_
     rintro e w3 ⟨p, rfl, HP, hb3⟩
     have X3 := Zt X2 hb3
     have KA3 := Zh ((zf7 w k a n c).on X3.out)
     have KR3 := Zh ((zf4 w k a n c).on X3.out)
     clear hb3
     clear k0 k1
     have k0 := dk0 KA3.out
     have k1 := dk1 KA3.out
     have hpn : p <= n := by have h1 := HP.out.1; rw [FP.files_len, HD.out.1] at h1; exact h1
     go_wp2_with fail
     have HY : zf0 (w3.alloc (.cells #[.int .i64 no, .slice none 0 0, .int .i64 0] 53)) (some ⟨w3.heap.size, 0, none⟩) 1 1 [⟨no, none, 0, 0, [], 0⟩] := zvq ⟨rfl, ⟨⟨by simp, by simp [maxLen]⟩, by simp, .inl rfl⟩, fun _ => ⟨rfl, rfl⟩⟩
     have XB := X3.out.alloc X3.out.size (.cells #[.int .i64 no, .slice none 0 0, .int .i64 0] 53)
     have hfs : FP.files (xs.take p ++ [⟨no, none, 0, 0, [], 0⟩] ++ xs.drop p) = (FP.files xs).filter (fun f => decide (f.1 < no)) ++ (no, [], 0) :: (FP.files xs).filter (fun f => decide (no < f.1)) := by
      obtain ⟨h1, h2⟩ := D.take_place HP.out HNI.out
      rw [h1, h2, FP.files_append, FP.files_append, FP.files_take, FP.files_drop]
      simp [FP.files, FP.file]
     have hsm : D.small (FP.files (xs.take p ++ [⟨no, none, 0, 0, [], 0⟩] ++ xs.drop p)) := by
      refine ⟨by have h1 := HD.out.1; rw [FP.files_len]; simp; omega, fun g hg => ?_⟩
      rw [FP.files_append, FP.files_append, FP.files_take, FP.files_drop] at hg
      rcases List.mem_append.1 hg with hg | hg
      ·rcases List.mem_append.1 hg with hg | hg
       ·exact HS.out.2 g (List.mem_of_mem_take hg)
       ·simp [FP.files, FP.file] at hg; rw [hg]; simp
      ·exact HS.out.2 g (List.mem_of_mem_drop hg)
     have HFS := Zh hfs
     clear hfs
     refine (zvp k a n c p p _ _ _ 1 1 xs [⟨no, none, 0, 0, [], 0⟩] _ rfl rfl (HD.out.below (zf5 XB)) HY hpn hpn (by omega) hsm).mono ?_
     rintro e w4 ⟨a3, n3, c3, zs, rfl, HD3, HF3, HX3, hb4⟩
     clear k0 k1
     have XF := Zh (Below.trans XB (hb4.mono (Below.size XB)))
     have KRF := Zh ((zf4 w k a n c).on XF.out)
     have hsz := zuk XB
     have hfar : dFar (w.heap.size + 1) a3 zs := HX3.out _ (by omega) trivial
     have hfb : ∀ b, b < w.heap.size -> dFar b a3 zs := fun b hb => HX3.out b (by omega) trivial
     have r0 := dk0 KRF.out
     have r1 := dk1 KRF.out
     have f0 := KRF.out.frozen 0
     have f1 := KRF.out.frozen 1
     clear hb4 hsz HY hsm
     go_wp2
     refine bodyPost_ret (zt0 (x := .int .i64 0) (g := w.heap.size + 1) rfl k a3 n3 c3 (by kernel_rfl) (by kernel_rfl) KRF.out.putD) (by kernel_rfl) ?_
     exact ⟨a3, n3, c3, zs, by rw [HU.out], Zh ((HD3.out.set hfar 0 _).set hfar 1 _), Zh (by rw [HF3.out, HU.out]; exact HFS.out), Zh fun b hb _ => hfb b hb, zf1 (zf5 XF.out) (Nat.le_succ _) _ _ _ _⟩
  ·have HU : Hid (D.make (k, FP.files xs) no = ((k, FP.files xs), 1)) := Zh (by unfold D.make; rw [if_neg (fun h => hn h.2)])
   have HI := Zh (decide_eq_false hn)
   clear hd hs hm hn
   go_enter Tryz.func85, Tryz.ntmps85
   go_wp2_with fail
   refine (zt1 k a n c xs true (dbn w k a n c) (HD.out.below (zf5 X0.out)) HM.out).mono ?_
   rintro e w1 ⟨rfl, hb1⟩
   have X1 := Zt X0 hb1
   have KA1 := Zh ((zf7 w k a n c).on X1.out)
   have KR1 := Zh ((zf4 w k a n c).on X1.out)
   clear hb1
   have k0 := dk0 KA1.out
   have k1 := dk1 KA1.out
   go_wp2_with fail
   refine (zt8 no false _ HI.out).mono ?_
   rintro e w' ⟨rfl, rfl⟩
   go_wp2_with fail
   refine (zt7 k a n c xs w1 (HD.out.below (zf5 X1.out)) HS.out).mono ?_
   rintro e w2 ⟨a3, n3, c3, zs, rfl, HD3, HF3, HX3, hb2⟩
   clear k0 k1
   have XF := Zh (Below.trans X1.out (hb2.mono (Below.size X1.out)))
   have KRF := Zh ((zf4 w k a n c).on XF.out)
   have hsz := zuk X1.out
   have hfar : dFar (w.heap.size + 1) a3 zs := HX3.out _ (by omega) trivial
   have hfb : ∀ b, b < w.heap.size -> dFar b a3 zs := fun b hb => HX3.out b (by omega) trivial
   have r0 := dk0 KRF.out
   have r1 := dk1 KRF.out
   have f0 := KRF.out.frozen 0
   have f1 := KRF.out.frozen 1
   clear hb2 hsz
   go_wp2
   refine bodyPost_ret (zt0 (x := .int .i64 1) (g := w.heap.size + 1) rfl k a3 n3 c3 (by kernel_rfl) (by kernel_rfl) KRF.out.putD) (by kernel_rfl) ?_
   exact ⟨a3, n3, c3, zs, by rw [HU.out], Zh ((HD3.out.set hfar 0 _).set hfar 1 _), Zh (by rw [HF3.out, HU.out]), Zh fun b hb _ => hfb b hb, zf1 (zf5 XF.out) (Nat.le_succ _) _ _ _ _⟩
 ·have HU : Hid (D.make (k, FP.files xs) no = ((k, FP.files xs), 1)) := Zh (by unfold D.make; rw [if_neg (fun h => hm h.1)])
  have HM := Zh (decide_eq_false hm)
  clear hd hs hm
  go_enter Tryz.func85, Tryz.ntmps85
  go_wp2_with fail
  refine (zt1 k a n c xs false (dbn w k a n c) (HD.out.below (zf5 X0.out)) HM.out).mono ?_
  rintro e w1 ⟨rfl, hb1⟩
  have X1 := Zt X0 hb1
  have KA1 := Zh ((zf7 w k a n c).on X1.out)
  have KR1 := Zh ((zf4 w k a n c).on X1.out)
  clear hb1
  have k0 := dk0 KA1.out
  have k1 := dk1 KA1.out
  go_wp2_with fail
  refine (zt7 k a n c xs w1 (HD.out.below (zf5 X1.out)) HS.out).mono ?_
  rintro e w2 ⟨a3, n3, c3, zs, rfl, HD3, HF3, HX3, hb2⟩
  clear k0 k1
  have XF := Zh (Below.trans X1.out (hb2.mono (Below.size X1.out)))
  have KRF := Zh ((zf4 w k a n c).on XF.out)
  have hsz := zuk X1.out
  have hfar : dFar (w.heap.size + 1) a3 zs := HX3.out _ (by omega) trivial
  have hfb : ∀ b, b < w.heap.size -> dFar b a3 zs := fun b hb => HX3.out b (by omega) trivial
  have r0 := dk0 KRF.out
  have r1 := dk1 KRF.out
  have f0 := KRF.out.frozen 0
  have f1 := KRF.out.frozen 1
  clear hb2 hsz
  go_wp2
  refine bodyPost_ret (zt0 (x := .int .i64 1) (g := w.heap.size + 1) rfl k a3 n3 c3 (by kernel_rfl) (by kernel_rfl) KRF.out.putD) (by kernel_rfl) ?_
  exact ⟨a3, n3, c3, zs, by rw [HU.out], Zh ((HD3.out.set hfar 0 _).set hfar 1 _), Zh (by rw [HF3.out, HU.out]), Zh fun b hb _ => hfb b hb, zf1 (zf5 XF.out) (Nat.le_succ _) _ _ _ _⟩
end Go.Proofs.YtnbkkjcmblfhpaaGreat
namespace Go.Proofs.YtnbkkjcmblfhpaaGreat
set_option maxHeartbeats 1000000
set_option maxRecDepth 100000
open Go.RowKit
theorem zxo (k : Int) (a : Option Addr) (n c : Nat) (no : Int) (ab : Option Addr) (mb cb : Nat) (bb : List Int) (xs : List FP) (w : World) (hd : zf0 w a n c xs) (hs : D.small (FP.files xs)) (hbl : bb.length = mb) (hbr : zfv .u8 w ab cb bb) (hbz : ab = none -> mb = 0 /\ cb = 0) :
  Calls Tryz.prog 86 #[.agg #[.int .i64 k, .slice a n c], .int .i64 no, .slice ab mb cb] w (RetE any (D.write (k, FP.files xs) no bb) w) := by
 have HD := Zh hd
 have HS := Zh hs
 have hcap := hd.caps
 have hml : maxLen <= 9223372036854775807 := by decide
 have KA := Zh (zf7 w k a n c)
 have KR := Zh (zf4 w k a n c)
 have X0 : Hid (Below (dbn w k a n c).heap.size (dbn w k a n c) (dbn w k a n c)) := Zh (Below.refl _ _)
 have h14 : n <= 14 := by have h1 := hs.1; simp only [FP.files_len, hd.1] at h1; exact h1
 have HBB := Zh hbl
 have HBR := Zh hbr
 have HBZ := Zh hbz
 clear hbl hbr hbz
 obtain ⟨i, e0, hk⟩ : ∃ i e, zur (k, FP.files xs) no = (i, e) := ⟨_, _, rfl⟩
 have HK := Zh hk
 clear hd hs hk
 by_cases he : e0 = 0
 ·subst he
  obtain ⟨hm, j, rfl, hj⟩ := zve HK.out
  obtain ⟨hj1, hj2⟩ := D.idx_some hj
  have hjn : j < n := by rw [FP.files_len, HD.out.1] at hj1; exact hj1
  have HLT : Hid (j < xs.length) := Zh (by rw [HD.out.1]; exact hjn)
  obtain ⟨u, hu⟩ : ∃ u : Int, (if D.may (k, FP.files xs) then (D.used (FP.files xs) : Int) else 0) = u := ⟨_, rfl⟩
  have HUU := Zh hu
  have HUF : Hid ((D.used (FP.files xs) : Int) = u) := Zh (by rw [<- hu, if_pos hm])
  have hku : 0 <= u /\ u <= k /\ k <= 65536 := by have h1 := hm.2.2.2; have h2 := hm.1.2.1; have h3 := HUF.out; simp only at h1 h2; omega
  have hwr : IntKind.i64.wrap (k - u) = k - u := zf9 (by omega) (by omega)
  obtain ⟨qq, hq⟩ : ∃ qq, decide (k - u < (mb : Int)) = qq := ⟨_, rfl⟩
  have HQ := Zh hq
  clear hu hq
  by_cases hqq : qq = true
  ·obtain rfl : qq = true := hqq
   have HU : Hid (D.write (k, FP.files xs) no bb = ((k, FP.files xs), 9)) := Zh (by
    have h1 := of_decide_eq_true HQ.out
    have h2 := HBB.out
    exact D.upd_err hm hj rfl (if_pos (by simp only; rw [<- HUF.out] at h1; omega)) (by decide))
   clear hm hj hj1 hj2
   go_enter Tryz.func86, Tryz.ntmps86
   go_wp2_with fail
   refine (zuo k a n c no xs _ _ (dbn w k a n c) (HD.out.below (zf5 X0.out)) HK.out).mono ?_
   rintro e w1 ⟨rfl, hb1⟩
   have X1 := Zt X0 hb1
   have KA1 := Zh ((zf7 w k a n c).on X1.out)
   have KR1 := Zh ((zf4 w k a n c).on X1.out)
   clear hb1
   have k0 := dk0 KA1.out
   have k1 := dk1 KA1.out
   go_wp2_with fail
   refine wp_region_held (S := fun w' => w'.cell? ⟨w.heap.size, 0, none⟩ = some (.int .i64 k) /\ w'.cell? ⟨w.heap.size, 1, none⟩ = some (.slice a n c)) (by kernel_rfl) ?_
   change wpAnyH _ _ _ _ _ _ _ _ (World.drew w1)
   have HS0 : (fun w' : World => w'.cell? ⟨w.heap.size, 0, none⟩ = some (.int .i64 k) /\ w'.cell? ⟨w.heap.size, 1, none⟩ = some (.slice a n c)) (World.drew w1) := ⟨k0, k1⟩
   refine tk 0 ((.slice ab mb cb)) HS0 ?_
   refine tk 1 ((.int .i64 (mb : Int))) HS0 ?_
   refine tk 2 ((.pointer (some ⟨w.heap.size, 0, none⟩))) HS0 ?_
   refine wpAnyH_take (i := 3) (v := (.int .i64 k)) rfl (by kernel_rfl) (by kernel_rfl) (by kernel_rfl) (fun _ _ _ h => h) (.inl ⟨by kernel_rfl, fun w9 hS => by have c := hS.1; go_simp⟩) HS0 ?_
   refine wpAnyH_take (i := 4) (v := (.agg #[.int .i64 k, .slice a n c])) rfl (by kernel_rfl) (by kernel_rfl) (by kernel_rfl) (fun _ _ _ h => h) (.inl ⟨by kernel_rfl, fun w9 hS => by have c0 := hS.1; have c1 := hS.2; go_simp⟩) HS0 ?_
   refine Zc 5 166 #[.agg #[.int .i64 k, .slice a n c]] (zwp k a n c xs u _ (HD.out.below (zf5 X1.out.drew)) HUU.out) ?_
   rintro e w2 ⟨rfl, hb2⟩
   have X2 := Zh (Below.trans X1.out.drew (hb2.mono (Below.size X1.out.drew)))
   have KA2 := Zh ((zf7 w k a n c).on X2.out)
   have KR2 := Zh ((zf4 w k a n c).on X2.out)
   have HS1 : (fun w' : World => w'.cell? ⟨w.heap.size, 0, none⟩ = some (.int .i64 k) /\ w'.cell? ⟨w.heap.size, 1, none⟩ = some (.slice a n c)) w2 := ⟨dk0 KA2.out, dk1 KA2.out⟩
   refine ⟨_, rfl, HS1, ?_⟩
   refine wpAnyH_take (i := 6) (v := (.int .i64 (k - u))) rfl (by kernel_rfl) (by kernel_rfl) (by kernel_rfl) (fun _ _ _ h => h) (.inl ⟨by kernel_rfl, fun w9 hS => (show _ = Result.ok (.value (.int .i64 (IntKind.i64.wrap (k - u)))) w9 by kernel_rfl).trans (by rw [hwr])⟩) HS1 ?_
   refine wpAnyH_take (i := 7) (v := (.bool true)) rfl (by kernel_rfl) (by kernel_rfl) (by kernel_rfl) (fun _ _ _ h => h) (.inl ⟨by kernel_rfl, fun w9 hS => (show _ = Result.ok (.value (.bool (decide (k - u < (mb : Int))))) w9 by kernel_rfl).trans (by rw [HQ.out])⟩) HS1 ?_
   refine tk 8 ((.bool true)) HS1 ?_
   refine wpAnyH_done (by kernel_rfl) ?_ _
   simp only [List.getElem_toArray, List.getElem_cons_succ, List.getElem_cons_zero, zc7, List.setIfInBounds_toArray, List.set_cons_succ, List.set_cons_zero]
   clear HS0 HS1 hb2 k0 k1
   have k0 := dk0 KA2.out
   have k1 := dk1 KA2.out
   go_wp2_with fail
   refine (zt7 k a n c xs w2 (HD.out.below (zf5 X2.out)) HS.out).mono ?_
   rintro e w3 ⟨a3, n3, c3, zs, rfl, HD3, HF3, HX3, hb3⟩
   clear k0 k1
   have XF := Zh (Below.trans X2.out (hb3.mono (Below.size X2.out)))
   have KRF := Zh ((zf4 w k a n c).on XF.out)
   have hsz := zuk X2.out
   have hfar : dFar (w.heap.size + 1) a3 zs := HX3.out _ (by omega) trivial
   have hfb : ∀ b, b < w.heap.size -> dFar b a3 zs := fun b hb => HX3.out b (by omega) trivial
   have r0 := dk0 KRF.out
   have r1 := dk1 KRF.out
   have f0 := KRF.out.frozen 0
   have f1 := KRF.out.frozen 1
   clear hb3 hsz
   go_wp2
   refine bodyPost_ret (zt0 (x := .int .i64 9) (g := w.heap.size + 1) rfl k a3 n3 c3 (by kernel_rfl) (by kernel_rfl) KRF.out.putD) (by kernel_rfl) ?_
   exact ⟨a3, n3, c3, zs, by rw [HU.out], Zh ((HD3.out.set hfar 0 _).set hfar 1 _), Zh (by rw [HF3.out, HU.out]), Zh fun b hb _ => hfb b hb, zf1 (zf5 XF.out) (Nat.le_succ _) _ _ _ _⟩
  ·obtain rfl : qq = false := by simpa using hqq
   have HU : Hid (D.write (k, FP.files xs) no bb = ((k, (FP.files xs).set j (((FP.files xs).getD j D.nof).1, ((FP.files xs).getD j D.nof).2.1 ++ bb, ((FP.files xs).getD j D.nof).2.2)), 0)) := Zh (by
    have h1 := of_decide_eq_false HQ.out
    have h2 := HBB.out
    exact D.upd_ok hm hj rfl (if_neg (by simp only; rw [<- HUF.out] at h1; omega)))
   have hfit : Hid ((D.used (FP.files xs) + bb.length : Nat) <= 65536) := Zh (by
    have h1 := of_decide_eq_false HQ.out
    have h2 := HBB.out
    have h3 := hm.1.2.1
    rw [<- HUF.out] at h1
    simp only at h3
    omega)
   clear hm hj hj1 hj2
   go_enter Tryz.func86, Tryz.ntmps86
   go_wp2_with fail
   refine (zuo k a n c no xs _ _ (dbn w k a n c) (HD.out.below (zf5 X0.out)) HK.out).mono ?_
   rintro e w1 ⟨rfl, hb1⟩
   have X1 := Zt X0 hb1
   have KA1 := Zh ((zf7 w k a n c).on X1.out)
   have KR1 := Zh ((zf4 w k a n c).on X1.out)
   clear hb1
   have k0 := dk0 KA1.out
   have k1 := dk1 KA1.out
   go_wp2_with fail
   refine wp_region_held (S := fun w' => w'.cell? ⟨w.heap.size, 0, none⟩ = some (.int .i64 k) /\ w'.cell? ⟨w.heap.size, 1, none⟩ = some (.slice a n c)) (by kernel_rfl) ?_
   change wpAnyH _ _ _ _ _ _ _ _ (World.drew w1)
   have HS0 : (fun w' : World => w'.cell? ⟨w.heap.size, 0, none⟩ = some (.int .i64 k) /\ w'.cell? ⟨w.heap.size, 1, none⟩ = some (.slice a n c)) (World.drew w1) := ⟨k0, k1⟩
   refine tk 0 ((.slice ab mb cb)) HS0 ?_
   refine tk 1 ((.int .i64 (mb : Int))) HS0 ?_
   refine tk 2 ((.pointer (some ⟨w.heap.size, 0, none⟩))) HS0 ?_
   refine wpAnyH_take (i := 3) (v := (.int .i64 k)) rfl (by kernel_rfl) (by kernel_rfl) (by kernel_rfl) (fun _ _ _ h => h) (.inl ⟨by kernel_rfl, fun w9 hS => by have c := hS.1; go_simp⟩) HS0 ?_
   refine wpAnyH_take (i := 4) (v := (.agg #[.int .i64 k, .slice a n c])) rfl (by kernel_rfl) (by kernel_rfl) (by kernel_rfl) (fun _ _ _ h => h) (.inl ⟨by kernel_rfl, fun w9 hS => by have c0 := hS.1; have c1 := hS.2; go_simp⟩) HS0 ?_
   refine Zc 5 166 #[.agg #[.int .i64 k, .slice a n c]] (zwp k a n c xs u _ (HD.out.below (zf5 X1.out.drew)) HUU.out) ?_
   rintro e w2 ⟨rfl, hb2⟩
   have X2 := Zh (Below.trans X1.out.drew (hb2.mono (Below.size X1.out.drew)))
   have KA2 := Zh ((zf7 w k a n c).on X2.out)
   have KR2 := Zh ((zf4 w k a n c).on X2.out)
   have HS1 : (fun w' : World => w'.cell? ⟨w.heap.size, 0, none⟩ = some (.int .i64 k) /\ w'.cell? ⟨w.heap.size, 1, none⟩ = some (.slice a n c)) w2 := ⟨dk0 KA2.out, dk1 KA2.out⟩
   refine ⟨_, rfl, HS1, ?_⟩
   refine wpAnyH_take (i := 6) (v := (.int .i64 (k - u))) rfl (by kernel_rfl) (by kernel_rfl) (by kernel_rfl) (fun _ _ _ h => h) (.inl ⟨by kernel_rfl, fun w9 hS => (show _ = Result.ok (.value (.int .i64 (IntKind.i64.wrap (k - u)))) w9 by kernel_rfl).trans (by rw [hwr])⟩) HS1 ?_
   refine wpAnyH_take (i := 7) (v := (.bool false)) rfl (by kernel_rfl) (by kernel_rfl) (by kernel_rfl) (fun _ _ _ h => h) (.inl ⟨by kernel_rfl, fun w9 hS => (show _ = Result.ok (.value (.bool (decide (k - u < (mb : Int))))) w9 by kernel_rfl).trans (by rw [HQ.out])⟩) HS1 ?_
   refine tk 8 ((.bool false)) HS1 ?_
   refine wpAnyH_done (by kernel_rfl) ?_ _
   simp only [List.getElem_toArray, List.getElem_cons_succ, List.getElem_cons_zero, zc7, List.setIfInBounds_toArray, List.set_cons_succ, List.set_cons_zero]
   clear HS0 HS1 hb2 k0 k1
   have k0 := dk0 KA2.out
   have k1 := dk1 KA2.out
   obtain ⟨b1, o1, no1, a1, n1, c1, L1, s1, rfl, hb1, hx, p0, p1, p2, hok⟩ := (((HD.out.below (zf5 X2.out))).2.1).at (i := j) (by rw [HD.out.1]; exact hjn)
   have HX := Zh hx
   have HOK := Zh hok
   clear hx hok
   have hle : L1.length + mb <= 65536 := by
    have h1 := hfit.out
    have h2 := zv0 HX.out
    have h3 := zu2 xs (j + 1)
    have h4 := HBB.out
    simp only at h2
    omega
   have h1n : L1.length = n1 := HOK.out.1
   have hc1 : n1 <= c1 /\ c1 <= maxLen := by have h1 := HOK.out.2.1.1; simp only at h1; omega
   have hsl : ∀ w, (Instr.sliceAt 51 (.slice a1 n1 c1) none (some (.int .i64 (n1 : Int))) (some (.int .i64 (n1 : Int)))).run Tryz.prog w = .ok (.slice (sl a1 0 n1) n1 n1) w := fun w => zvy a1 w (Nat.le_refl _) hc1.1
   have hbf := zud w2 no1 a1 n1 c1 s1
   have hrow : zfv .u8 (zu3 w2 no1 a1 n1 c1 s1) (sl a1 0 n1) n1 L1 := by
    have h2 := zo6 (HOK.out.2.1.below hbf) (l := 0) (h := n1) (m := n1) (Nat.zero_le _) (by simp only; omega) (Nat.le_refl _) (by omega)
    simp only [List.drop_zero, Nat.sub_zero] at h2
    rwa [List.take_of_length_le (by omega)] at h2
   have hold : L1 = [] \/ ∀ y, sl a1 0 n1 = some y -> y.block ≠ w2.heap.size := by
    rcases HOK.out.2.1.2.2 with h0 | ⟨bb', off, he, hlt, _⟩
    ·exact .inl h0
    ·refine .inr ?_
     intro y hy hyb
     simp only at he
     unfold sl at hy
     rw [he] at hy
     split at hy
     ·cases hy; simp only at hyb; omega
     ·simp only [Option.map_some, Option.some.injEq] at hy; rw [<- hy, WideShapes.add_plain] at hyb; simp only at hyb; omega
   have XF0 := Below.trans X2.out (hbf.mono X2.out.size)
   obtain ⟨av, cv, wg, hrun, hrv, hzv, hbg, hfv⟩ := zvz 51 h1n hrow (fun h => by have h2 := HOK.out.2.2 (zs6 h); simp only at h2; omega) (HBR.out.below (zf5 XF0)) HBB.out HBZ.out (by omega)
   have hfv2 := hfv w2.heap.size (by rw [zvc]; omega) hold
   have XG := Below.trans XF0 (hbg.mono XF0.size)
   have KF := (zuh w2 no1 a1 n1 c1 s1).on hbg
   have hgr := zf3 wg w2.heap.size 1 (.slice av (n1 + mb) cv)
   have hlt2 := zuk X2.out
   have KFh : Blok (wg.setCell ⟨w2.heap.size, 1, none⟩ (.slice av (n1 + mb) cv)) w2.heap.size 53 #[.int .i64 no1, .slice av (n1 + mb) cv, .int .i64 s1] := by simpa using KF.set 1 (.slice av (n1 + mb) cv)
   have KAh := ((zf7 w k (some ⟨b1, o1, none⟩) n c).on XG).grown hgr (by simp; omega)
   have XH := XG.setCell (p := ⟨w2.heap.size, 1, none⟩) X2.out.size (.slice av (n1 + mb) cv)
   have HRh : zfv .u8 (wg.setCell ⟨w2.heap.size, 1, none⟩ (.slice av (n1 + mb) cv)) av cv (L1 ++ bb) := zwd hrv hfv2 1 _
   have ka0 : ∀ o, (w2.alloc o).cell? ⟨w.heap.size, 0, none⟩ = some (.int .i64 k) := fun o => dk0 (KA2.out.alloc o)
   have ka1 : ∀ o, (w2.alloc o).cell? ⟨w.heap.size, 1, none⟩ = some (.slice (some ⟨b1, o1, none⟩) n c) := fun o => dk1 (KA2.out.alloc o)
   have q1 := fk1 KF
   have q2 := KF.frozen 1
   have h0 := dk0 KAh
   have h1 := dk1 KAh
   have u0 := fk0 KFh
   have u1 := fk1 KFh
   have u2 := fk2 KFh
   go_wp2_with (at_builtin; refine zuj (v' := .slice av (n1 + mb) cv) (w' := wg) rfl rfl rfl rfl hrun ?_)
   have HOK2 : FP.ok (wg.setCell ⟨w2.heap.size, 1, none⟩ (.slice av (n1 + mb) cv)) ⟨no1, av, n1 + mb, cv, L1 ++ bb, s1⟩ := ⟨by simp [h1n, HBB.out], HRh, hzv⟩
   have HY : zf0 ((wg.setCell ⟨w2.heap.size, 1, none⟩ (.slice av (n1 + mb) cv)).alloc (.cells #[.int .i64 no1, .slice av (n1 + mb) cv, .int .i64 s1] 53)) (some ⟨wg.heap.size, 0, none⟩) 1 1 [⟨no1, av, n1 + mb, cv, L1 ++ bb, s1⟩] := by
    have h1 := zvq HOK2
    rwa [show (wg.setCell ⟨w2.heap.size, 1, none⟩ (.slice av (n1 + mb) cv)).heap.size = wg.heap.size by simp] at h1
   have XB := XH.alloc XH.size (.cells #[.int .i64 no1, .slice av (n1 + mb) cv, .int .i64 s1] 53)
   have hsm : D.small (FP.files (xs.take j ++ [⟨no1, av, n1 + mb, cv, L1 ++ bb, s1⟩] ++ xs.drop (j + 1))) := by
    rw [zuy xs j _ HLT.out]
    refine zv2 HS.out j _ ?_
    simp only [FP.file, List.length_append, HBB.out]
    omega
   refine (zvp k (some ⟨b1, o1, none⟩) n c j (j + 1) _ _ _ 1 1 xs [⟨no1, av, n1 + mb, cv, L1 ++ bb, s1⟩] _ rfl (by simp) (HD.out.below (zf5 XB)) HY (by omega) (by omega) (by omega) hsm).mono ?_
   rintro e w3 ⟨a3, n3, c3, zs, rfl, HD3, HF3, HX3, hb3⟩
   clear k0 k1 p0 p1 p2 q1 q2 h0 h1 u0 u1 u2
   have XF := Zh (Below.trans XB (hb3.mono (Below.size XB)))
   have KRF := Zh ((zf4 w k (some ⟨b1, o1, none⟩) n c).on XF.out)
   have hsz := zuk XB
   have hfar : dFar (w.heap.size + 1) a3 zs := HX3.out _ (by omega) trivial
   have hfb : ∀ b, b < w.heap.size -> dFar b a3 zs := fun b hb => HX3.out b (by omega) trivial
   have r0 := dk0 KRF.out
   have r1 := dk1 KRF.out
   have f0 := KRF.out.frozen 0
   have f1 := KRF.out.frozen 1
   clear hb3 hsz ka0 ka1 HY hsm hsl hrun hrow hold hfv hfv2 HOK2 HRh
   go_wp2
   refine bodyPost_ret (zt0 (x := .int .i64 0) (g := w.heap.size + 1) rfl k a3 n3 c3 (by kernel_rfl) (by kernel_rfl) KRF.out.putD) (by kernel_rfl) ?_
   exact ⟨a3, n3, c3, zs, by rw [HU.out], Zh ((HD3.out.set hfar 0 _).set hfar 1 _), Zh (by rw [HF3.out, HU.out, zuy xs j _ HLT.out, FP.files_at HX.out]; rfl), Zh fun b hb _ => hfb b hb, zf1 (zf5 XF.out) (Nat.le_succ _) _ _ _ _⟩
 ·have HU : Hid (D.write (k, FP.files xs) no bb = ((k, FP.files xs), e0)) := Zh (by unfold D.write; exact zwq HK.out he _)
  have hne : (e0 != 0) = true := by simpa using he
  clear he
  go_enter Tryz.func86, Tryz.ntmps86
  go_wp2_with fail
  refine (zuo k a n c no xs _ _ (dbn w k a n c) (HD.out.below (zf5 X0.out)) HK.out).mono ?_
  rintro e w1 ⟨rfl, hb1⟩
  have X1 := Zt X0 hb1
  have KA1 := Zh ((zf7 w k a n c).on X1.out)
  have KR1 := Zh ((zf4 w k a n c).on X1.out)
  clear hb1
  have k0 := dk0 KA1.out
  have k1 := dk1 KA1.out
  go_wp2_with fail
  refine (zt7 k a n c xs w1 (HD.out.below (zf5 X1.out)) HS.out).mono ?_
  rintro e w2 ⟨a3, n3, c3, zs, rfl, HD3, HF3, HX3, hb2⟩
  clear k0 k1
  have XF := Zh (Below.trans X1.out (hb2.mono (Below.size X1.out)))
  have KRF := Zh ((zf4 w k a n c).on XF.out)
  have hsz := zuk X1.out
  have hfar : dFar (w.heap.size + 1) a3 zs := HX3.out _ (by omega) trivial
  have hfb : ∀ b, b < w.heap.size -> dFar b a3 zs := fun b hb => HX3.out b (by omega) trivial
  have r0 := dk0 KRF.out
  have r1 := dk1 KRF.out
  have f0 := KRF.out.frozen 0
  have f1 := KRF.out.frozen 1
  clear hb2 hsz
  go_wp2
  refine bodyPost_ret (zt0 (x := .int .i64 e0) (g := w.heap.size + 1) rfl k a3 n3 c3 (by kernel_rfl) (by kernel_rfl) KRF.out.putD) (by kernel_rfl) ?_
  exact ⟨a3, n3, c3, zs, by rw [HU.out], Zh ((HD3.out.set hfar 0 _).set hfar 1 _), Zh (by rw [HF3.out, HU.out]), Zh fun b hb _ => hfb b hb, zf1 (zf5 XF.out) (Nat.le_succ _) _ _ _ _⟩
end Go.Proofs.YtnbkkjcmblfhpaaGreat
