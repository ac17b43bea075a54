import Derived.Test.YtnbkkjcmblfhpaaGreatP24
import Derived.Test.YtnbkkjcmblfhpaaGreatP25
import Derived.Test.YtnbkkjcmblfhpaaGreatP21
import Derived.Test.YtnbkkjcmblfhpaaGreatP22
import Derived.Test.YtnbkkjcmblfhpaaGreatP0
import Derived.Test.YtnbkkjcmblfhpaaGreatP6
import Derived.Test.YtnbkkjcmblfhpaaGreatP8
namespace Go.Proofs.YtnbkkjcmblfhpaaGreat
set_option maxHeartbeats 400000
set_option maxRecDepth 100000
open Go.RowKit
namespace G
theorem pkq {w : World} {g : Nat} {t : TypeId} {x y z u : Value} (h : Blok w g t #[x, y, z, u]) : (∀ d os, (Go.Sort.grow (redrawn w d) os).cell? ⟨g, 0, none⟩ = some x) /\ (∀ d os, (Go.Sort.grow (redrawn w d) os).cell? ⟨g, 1, none⟩ = some y) /\ (∀ d os, (Go.Sort.grow (redrawn w d) os).cell? ⟨g, 2, none⟩ = some z) /\ ∀ d os, (Go.Sort.grow (redrawn w d) os).cell? ⟨g, 3, none⟩ = some u :=
 ⟨fun _ _ => (h.below (below_regrown _ _ _) h.lt).cell 0, fun _ _ => (h.below (below_regrown _ _ _) h.lt).cell 1, fun _ _ => (h.below (below_regrown _ _ _) h.lt).cell 2, fun _ _ => (h.below (below_regrown _ _ _) h.lt).cell 3⟩
end G
theorem G.may_any (k : Int) (a : Option Addr) (n c : Nat) (wn wt : Int) (xs : List FP) (v : Bool) (w : World) (hd : zf0 w a n c xs) (hv : decide (G.may ((k, FP.files xs), wn, wt)) = v) :
  Calls Tryz.prog 26 #[.agg #[.int .i64 k, .slice a n c, .int .i64 wn, .int .i64 wt]] w fun e w' => e = .returned (.bool v) /\ Below w.heap.size w w' := by
 have HB0 := Zh (Below.refl w.heap.size w)
 have hcap := hd.caps
 have hml : maxLen <= 9223372036854775807 := by decide
 have HD0 := Zh (hd)
 have HV := Zh hv
 obtain ⟨dm, hdm⟩ : ∃ b, decide (D.may (k, FP.files xs)) = b := ⟨_, rfl⟩
 have HM := Zh hdm
 clear hd hv hdm
 obtain ⟨w1, hw1, hb, hk⟩ := Zn w 26 #[.int .i64 k, .slice a n c, .int .i64 wn, .int .i64 wt]
 replace HD0 := Zh (HD0.out.below hb)
 replace HB0 := Zt HB0 hb
 have KW1 := Zh hk
 clear hb hk
 obtain ⟨x0, x1, x2, x3⟩ := G.pk KW1.out
 obtain ⟨q0, q1, q2, q3⟩ := G.pkq KW1.out
 cases dm with
 | false =>
  have hc := fun W hW => zt1 k a n c xs false W hW HM.out
  cases n with
  | zero =>
   have HE : Hid (v = false) := Zh (by rw [<- HV.out]; exact decide_eq_false fun h => absurd h.1 (of_decide_eq_false HM.out))
   go_enter Tryz.func26, Tryz.ntmps26
   go_wp2_with fail
   try rw [hw1]
   refine wp_region_quiet_below (by kernel_rfl) (by kernel_rfl) ?_
   repeat (go_big_quiet_step (first | with_reducible exact Calls.regrown_of (hc _ (HD0.out.below (below_regrown _ _ _)))))
   refine wpQuiet_nil ?_
   intro _ hw'
   obtain ⟨⟨dq, osq⟩, hw''⟩ := hw'
   subst hw''
   clear x0 x1 x2 x3 q0 q1 q2 q3
   go_wp2
   go_ret
   exact ⟨by rw [HE.out]; rfl, HB0.out.trans ((below_regrown _ _ _).mono HB0.out.size)⟩
  | succ m =>
   have e1 : (m : Int) + 1 - 1 = (m : Int) := by omega
   have HE : Hid (v = false) := Zh (by rw [<- HV.out]; exact decide_eq_false fun h => absurd h.1 (of_decide_eq_false HM.out))
   go_enter Tryz.func26, Tryz.ntmps26
   go_wp2_with fail
   try rw [hw1]
   refine wp_region_quiet_below (by kernel_rfl) (by kernel_rfl) ?_
   repeat (go_big_quiet_step (first | with_reducible exact Calls.regrown_of (hc _ (HD0.out.below (below_regrown _ _ _)))))
   refine wpQuiet_nil ?_
   intro _ hw'
   obtain ⟨⟨dq, osq⟩, hw''⟩ := hw'
   subst hw''
   clear x0 x1 x2 x3 q0 q1 q2 q3
   go_wp2
   go_ret
   exact ⟨by rw [HE.out]; rfl, HB0.out.trans ((below_regrown _ _ _).mono HB0.out.size)⟩
 | true =>
  have hc := fun W hW => zt1 k a n c xs true W hW HM.out
  cases n with
  | zero =>
   have HE : Hid (v = false) := Zh (by rw [<- HV.out]; exact decide_eq_false fun h => h.2.1 (by rw [List.eq_nil_of_length_eq_zero HD0.out.1]; rfl))
   go_enter Tryz.func26, Tryz.ntmps26
   go_wp2_with fail
   try rw [hw1]
   refine wp_region_quiet_below (by kernel_rfl) (by kernel_rfl) ?_
   repeat (go_big_quiet_step (first | with_reducible exact Calls.regrown_of (hc _ (HD0.out.below (below_regrown _ _ _)))))
   refine wpQuiet_nil ?_
   intro _ hw'
   obtain ⟨⟨dq, osq⟩, hw''⟩ := hw'
   subst hw''
   clear x0 x1 x2 x3 q0 q1 q2 q3
   go_wp2
   go_ret
   exact ⟨by rw [HE.out]; rfl, HB0.out.trans ((below_regrown _ _ _).mono HB0.out.size)⟩
  | succ m =>
   obtain ⟨b, off, no, a', n', c', B, s, rfl, hlt, hx, p0, p1, p2, hok⟩ := HD0.out.2.1.at (i := m) (by rw [HD0.out.1]; omega)
   have HL : Hid (G.last (k, FP.files xs) = no) := Zh (G.last_at HD0.out.1 hx)
   have HN : Hid (FP.files xs ≠ []) := Zh (fun h => by have h1 := HD0.out.1; rw [<- FP.files_len, h] at h1; simp at h1)
   clear hx hok p1 p2
   have p0q : ∀ d os, (Go.Sort.grow (redrawn w1 d) os).cell? ⟨b, off + m * 3, none⟩ = some (.int .i64 no) := fun d os => ((below_regrown w1 d os).cell (p := ⟨b, off + m * 3, none⟩) hlt).trans p0
   have e1 : (m : Int) + 1 - 1 = (m : Int) := by omega
   have j0 : (0 : Int) <= m := by omega
   have j1 : (m : Int) < (m : Int) + 1 := by omega
   have d0 : decide ((0 : Int) <= m) = true := decide_eq_true j0
   have d1 : decide ((m : Int) ≥ 0) = true := d0
   by_cases k0 : wn = no
   ·have f0 : (wn == no) = true := by simpa using k0
    have HK0 := Zh k0
    clear k0
    by_cases k1 : 0 <= wt
    ·have f1 : decide (0 <= wt) = true := decide_eq_true k1
     have g1 : decide (wt ≥ 0) = true := f1
     by_cases k2 : wt <= 1073741824
     ·have f2 : decide (wt <= 1073741824) = true := decide_eq_true k2
      have HE : Hid (v = true) := Zh (by rw [<- HV.out]; exact decide_eq_true ⟨of_decide_eq_true HM.out, HN.out, HK0.out.trans HL.out.symm, k1, k2⟩)
      go_enter Tryz.func26, Tryz.ntmps26
      go_wp2_with fail
      try rw [hw1]
      refine wp_region_quiet_below (by kernel_rfl) (by kernel_rfl) ?_
      repeat (go_big_quiet_step (first | with_reducible exact Calls.regrown_of (hc _ (HD0.out.below (below_regrown _ _ _)))))
      refine wpQuiet_nil ?_
      intro _ hw'
      obtain ⟨⟨dq, osq⟩, hw''⟩ := hw'
      subst hw''
      clear x0 x1 x2 x3 q0 q1 q2 q3
      go_wp2
      go_ret
      exact ⟨by rw [HE.out]; rfl, HB0.out.trans ((below_regrown _ _ _).mono HB0.out.size)⟩
     ·have f2 : decide (wt <= 1073741824) = false := decide_eq_false k2
      have HE : Hid (v = false) := Zh (by rw [<- HV.out]; exact decide_eq_false fun h => k2 h.2.2.2.2)
      go_enter Tryz.func26, Tryz.ntmps26
      go_wp2_with fail
      try rw [hw1]
      refine wp_region_quiet_below (by kernel_rfl) (by kernel_rfl) ?_
      repeat (go_big_quiet_step (first | with_reducible exact Calls.regrown_of (hc _ (HD0.out.below (below_regrown _ _ _)))))
      refine wpQuiet_nil ?_
      intro _ hw'
      obtain ⟨⟨dq, osq⟩, hw''⟩ := hw'
      subst hw''
      clear x0 x1 x2 x3 q0 q1 q2 q3
      go_wp2
      go_ret
      exact ⟨by rw [HE.out]; rfl, HB0.out.trans ((below_regrown _ _ _).mono HB0.out.size)⟩
    ·have f1 : decide (0 <= wt) = false := decide_eq_false k1
     have g1 : decide (wt ≥ 0) = false := f1
     have HE : Hid (v = false) := Zh (by rw [<- HV.out]; exact decide_eq_false fun h => k1 h.2.2.2.1)
     go_enter Tryz.func26, Tryz.ntmps26
     go_wp2_with fail
     try rw [hw1]
     refine wp_region_quiet_below (by kernel_rfl) (by kernel_rfl) ?_
     repeat (go_big_quiet_step (first | with_reducible exact Calls.regrown_of (hc _ (HD0.out.below (below_regrown _ _ _)))))
     refine wpQuiet_nil ?_
     intro _ hw'
     obtain ⟨⟨dq, osq⟩, hw''⟩ := hw'
     subst hw''
     clear x0 x1 x2 x3 q0 q1 q2 q3
     go_wp2
     go_ret
     exact ⟨by rw [HE.out]; rfl, HB0.out.trans ((below_regrown _ _ _).mono HB0.out.size)⟩
   ·have f0 : (wn == no) = false := by simpa using k0
    have HE : Hid (v = false) := Zh (by rw [<- HV.out]; exact decide_eq_false fun h => k0 (h.2.2.1.trans HL.out))
    go_enter Tryz.func26, Tryz.ntmps26
    go_wp2_with fail
    try rw [hw1]
    refine wp_region_quiet_below (by kernel_rfl) (by kernel_rfl) ?_
    repeat (go_big_quiet_step (first | with_reducible exact Calls.regrown_of (hc _ (HD0.out.below (below_regrown _ _ _)))))
    refine wpQuiet_nil ?_
    intro _ hw'
    obtain ⟨⟨dq, osq⟩, hw''⟩ := hw'
    subst hw''
    clear x0 x1 x2 x3 q0 q1 q2 q3
    go_wp2
    go_ret
    exact ⟨by rw [HE.out]; rfl, HB0.out.trans ((below_regrown _ _ _).mono HB0.out.size)⟩
theorem G.same_any (k : Int) (a : Option Addr) (n c : Nat) (wn wt : Int) (xs : List FP) (k' : Int) (a' : Option Addr) (n' c' : Nat) (wn' wt' : Int) (ys : List FP) (v : Bool) (w : World) (hx : zf0 w a n c xs) (hy : zf0 w a' n' c' ys) (hv : decide ((((k, FP.files xs), wn, wt) : G.T) = ((k', FP.files ys), wn', wt')) = v) :
  Calls Tryz.prog 27 #[.agg #[.int .i64 k, .slice a n c, .int .i64 wn, .int .i64 wt], .agg #[.int .i64 k', .slice a' n' c', .int .i64 wn', .int .i64 wt']] w fun e w' => e = .returned (.bool v) /\ Below w.heap.size w w' := by
 have HB0 := Zh (Below.refl w.heap.size w)
 have HD0 := Zh (hx)
 have HE0 := Zh (hy)
 have HV := Zh hv
 clear hx hy hv
 obtain ⟨w1, hw1, hb, hk⟩ := Zn w 26 #[.int .i64 k, .slice a n c, .int .i64 wn, .int .i64 wt]
 replace HD0 := Zh (HD0.out.below hb)
 replace HE0 := Zh (HE0.out.below hb)
 replace HB0 := Zt HB0 hb
 have KW1 := Zh hk
 clear hb hk
 obtain ⟨w2, hw2, hb, hk⟩ := Zn w1 26 #[.int .i64 k', .slice a' n' c', .int .i64 wn', .int .i64 wt']
 replace HD0 := Zh (HD0.out.below hb)
 replace HE0 := Zh (HE0.out.below hb)
 replace KW1 := Zk KW1 hb
 replace HB0 := Zt HB0 hb
 have KV2 := Zh hk
 clear hb hk
 obtain ⟨x0, x1, x2, x3⟩ := G.pk KW1.out
 obtain ⟨y0, y1, y2, y3⟩ := G.pk KV2.out
 by_cases k0 : wn = wn'
 rotate_left
 ·have f0 : (wn == wn') = false := by simpa using k0
  have HR : Hid (v = false) := Zh (by rw [<- HV.out]; exact decide_eq_false fun h => k0 (congrArg (fun q : G.T => q.2.1) h))
  go_enter Tryz.func27, Tryz.ntmps27
  go_wp2_with fail
  go_ret
  exact ⟨by rw [HR.out]; rfl, by first | exact HB0.out | (have h := HB0.out; rw [<- hw2, <- hw1] at h; exact h)⟩
 by_cases k1 : wt = wt'
 rotate_left
 ·have f0 : (wn == wn') = true := by simpa using k0
  have f1 : (wt == wt') = false := by simpa using k1
  clear k0
  have HR : Hid (v = false) := Zh (by rw [<- HV.out]; exact decide_eq_false fun h => k1 (congrArg (fun q : G.T => q.2.2) h))
  go_enter Tryz.func27, Tryz.ntmps27
  go_wp2_with fail
  go_ret
  exact ⟨by rw [HR.out]; rfl, by first | exact HB0.out | (have h := HB0.out; rw [<- hw2, <- hw1] at h; exact h)⟩
 have f0 : (wn == wn') = true := by simpa using k0
 have f1 : (wt == wt') = true := by simpa using k1
 have HR : Hid (decide (((k, FP.files xs) : D.T) = (k', FP.files ys)) = v) := Zh (by subst k0 k1; rw [<- HV.out]; simp)
 clear k0 k1
 go_enter Tryz.func27, Tryz.ntmps27
 go_wp2_with fail
 try rw [hw1]
 try rw [hw2]
 refine (zuz k a n c xs k' a' n' c' ys v w2 HD0.out HE0.out HR.out).mono ?_
 rintro e w3 ⟨rfl, hb⟩
 replace HD0 := Zh (HD0.out.below hb)
 replace HE0 := Zh (HE0.out.below hb)
 replace KW1 := Zk KW1 hb
 replace KV2 := Zk KV2 hb
 replace HB0 := Zt HB0 hb
 clear hb
 go_wp2
 go_ret
 exact ⟨rfl, HB0.out⟩
end Go.Proofs.YtnbkkjcmblfhpaaGreat
namespace Go.Proofs.YtnbkkjcmblfhpaaGreat
set_option maxHeartbeats 400000
set_option maxRecDepth 100000
open Go.RowKit
theorem G.pk0 {w : World} {g : Nat} {t : TypeId} {x y z u : Value} (h : Blok w g t #[x, y, z, u]) : w.cell? ⟨g, 0, none⟩ = some x := h.cell 0
theorem G.pk1 {w : World} {g : Nat} {t : TypeId} {x y z u : Value} (h : Blok w g t #[x, y, z, u]) : w.cell? ⟨g, 1, none⟩ = some y := h.cell 1
theorem G.own_any (k : Int) (a : Option Addr) (n c : Nat) (wn wt : Int) (xs : List FP) (w : World) (hd : zf0 w a n c xs) (hs : D.small (FP.files xs)) :
  Calls Tryz.prog 51 #[.agg #[.int .i64 k, .slice a n c, .int .i64 wn, .int .i64 wt]] w (G.RetW ((k, FP.files xs), wn, wt) w) := by
 have HBX := Zh (G.wbn_below w k a n c wn wt)
 have HD := Zh hd
 have hcap := hd.caps
 have hml : maxLen <= 9223372036854775807 := by decide
 have h14 : n <= 14 := by have h1 := hs.1; simp only [FP.files_len, hd.1] at h1; exact h1
 have HS : Hid (∀ x ∈ xs, x.B.length <= 70000) := Zh (fun x hx => hs.2 (FP.file x) (List.mem_map.2 ⟨x, hx, rfl⟩))
 clear hd hs
 go_enter Tryz.func51, Tryz.ntmps51
 go_wp2_with fail
 refine (zvk a n c xs (G.wbn w k a n c wn wt) (by omega) (HD.out.below HBX.out)).mono ?_
 rintro e w1 ⟨v, rfl, HO, hb1⟩
 have B1 := Zt HBX hb1
 have KA := Zh ((G.wbn_arg w k a n c wn wt).on hb1)
 have KR := Zh ((G.wbn_res w k a n c wn wt).on hb1)
 clear hb1
 obtain ⟨a2, c2, rfl, _, hz2⟩ := zug HO.out HD.out.1 (fun x hx => (HD.out.2.1.2.1 x hx).below B1.out)
 have k1 := G.pk1 KA.out
 have f1 := KA.out.frozen 1
 have hg1 := zf3 w1 w.heap.size 1 (.slice a2 n c2)
 have KA2 : Hid (Blok (w1.setCell ⟨w.heap.size, 1, none⟩ (.slice a2 n c2)) w.heap.size 26 #[.int .i64 k, .slice a2 n c2, .int .i64 wn, .int .i64 wt]) := Zh (by simpa using KA.out.set 1 (.slice a2 n c2))
 have KR2 := Zh (KR.out.grown hg1 (by simp))
 have HO2 : Hid ((w1.setCell ⟨w.heap.size, 1, none⟩ (.slice a2 n c2)).ownsRow w.heap.size 53 3 (.slice a2 n c2) n (FP.flat xs)) := Zh (zan (HO.out.kept hg1 (.inr (fun e => by have := HO.out.lt _ e; rw [G.wbn_size] at this; omega))) (by rw [G.wbn_size]; omega))
 have HB2 : Hid (Below w.heap.size w (w1.setCell ⟨w.heap.size, 1, none⟩ (.slice a2 n c2))) := Zh (B1.out.setCell (p := ⟨w.heap.size, 1, none⟩) (Nat.le_refl _) _)
 have hcap2 : n <= c2 /\ c2 <= maxLen := by
  rcases HO.out.2 with ⟨he, _⟩ | ⟨g, cap, cur, he, _, _, h1, h2, _⟩
  ·simp only [Value.slice.injEq] at he; omega
  ·simp only [Value.slice.injEq] at he; omega
 clear KA KR HO B1
 go_wp2_with fail
 clear k1 f1
 clear hg1
 go_loopw [15] (fun i wr => ∃ (j : Nat) (zs : List FP), i = .int .i64 j /\ j <= n /\ zs.length = j /\ Hid (FP.files zs = FP.files (xs.take j)) /\ Hid (wr.ownsRow w.heap.size 53 3 (.slice a2 n c2) n (FP.flat (zs ++ xs.drop j))) /\ Hid (∀ z ∈ zs, Own1 w.heap.size wr z) /\ Hid (Apart zs) /\ Hid (Blok wr w.heap.size 26 #[.int .i64 k, .slice a2 n c2, .int .i64 wn, .int .i64 wt]) /\ Hid (Blok wr (w.heap.size + 1) 26 #[.int .i64 0, .slice none 0 0, .int .i64 0, .int .i64 0]) /\ Below w.heap.size w wr) (fun i _ => n - (intOf i).toNat)
 case atStart => exact ⟨0, [], rfl, by omega, rfl, Zh (by simp), HO2, Zh (by simp), Zh (by simp [Apart]), KA2, KR2, HB2.out⟩
 case round =>
  obtain ⟨j, zs, rfl, hjn, hzl, HZ, HO, HW, HP, KA, KR, hB⟩ := hrel
  by_cases hlt : j < n
  ·obtain ⟨g, cp, he, hBg, hgl⟩ := HO.out.form (by omega)
   simp only [Value.slice.injEq, true_and] at he
   obtain ⟨rfl, rfl⟩ := he
   have hxj : j < xs.length := by rw [HD.out.1]; exact hlt
   obtain ⟨⟨no, a1, n1, c1, B1, s1⟩, hx⟩ : ∃ x, xs[j]? = some x := ⟨_, List.getElem?_eq_getElem hxj⟩
   have hok := (HD.out.2.1.2.1 _ (List.mem_of_getElem? hx)).below hB
   have hx2 : (zs ++ xs.drop j)[j]? = some ⟨no, a1, n1, c1, B1, s1⟩ := by
    rw [List.getElem?_append_right (by omega), hzl, Nat.sub_self, List.getElem?_drop]; simpa using hx
   obtain ⟨g0, g1, g2⟩ := FP.flat_at _ _ _ hx2
   have q0 := (HO.out.cellAt (j * 3) (by omega)).trans g0
   have q1 := (HO.out.cellAt (j * 3 + 1) (by omega)).trans g1
   have q2 := (HO.out.cellAt (j * 3 + 2) (by omega)).trans g2
   have HX := Zh hx
   have HOK := Zh hok
   have hn1 : n1 <= 70000 := by have := HS.out _ (List.mem_of_getElem? hx); have h2 := hok.1; simp only at this h2; omega
   have G1 := Zh g1
   have hne : w.heap.size ≠ g := zt6 HO.out KA.out (.inl (by decide))
   have hne2 : w.heap.size + 1 ≠ g := zt6 HO.out KR.out (.inl (by decide))
   clear hx hok hx2 g0 g1 g2
   go_wp2_with fail
   refine wp_region_held (S := fun w' => w'.cell? ⟨w.heap.size, 1, none⟩ = some (.slice (some ⟨g, 0, none⟩) n c2) /\ w'.cell? ⟨wr.heap.size, 1, none⟩ = some (.slice a1 n1 c1)) (by kernel_rfl) ?_
   change wpAnyH _ _ _ _ _ _ _ _ (World.drew (zu3 wr no a1 n1 c1 s1))
   have FB := zud wr no a1 n1 c1 s1
   have FBD := FB.drew
   have HS0 : (fun w' : World => w'.cell? ⟨w.heap.size, 1, none⟩ = some (.slice (some ⟨g, 0, none⟩) n c2) /\ w'.cell? ⟨wr.heap.size, 1, none⟩ = some (.slice a1 n1 c1)) (World.drew (zu3 wr no a1 n1 c1 s1)) := ⟨G.pk1 (KA.out.on FBD), fk1 (zuh wr no a1 n1 c1 s1).drew⟩
   refine tk 0 ((.pointer (some ⟨w.heap.size, 0, none⟩))) HS0 ?_
   refine tk 1 ((.pointer (some ⟨w.heap.size, 1, none⟩))) HS0 ?_
   refine wpAnyH_take (i := 2) (v := (.slice (some ⟨g, 0, none⟩) n c2)) rfl (by kernel_rfl) (by kernel_rfl) (by kernel_rfl) (fun _ _ _ h => h) (.inl ⟨by kernel_rfl, fun w9 hS => by have c := hS.1; go_simp⟩) HS0 ?_
   refine tk 3 ((.int .i64 (j : Int))) HS0 ?_
   refine tk 4 ((.pointer (some ⟨wr.heap.size, 1, none⟩))) HS0 ?_
   refine wpAnyH_take (i := 5) (v := (.slice a1 n1 c1)) rfl (by kernel_rfl) (by kernel_rfl) (by kernel_rfl) (fun _ _ _ h => h) (.inl ⟨by kernel_rfl, fun w9 hS => by have c := hS.2; go_simp⟩) HS0 ?_
   refine Zc 6 104 #[.slice a1 n1 c1] (zuq a1 n1 c1 B1 _ (by omega) HOK.out.1 (HOK.out.2.1.below FBD)) ?_
   rintro e w3 ⟨v3, rfl, ho3, hb3⟩
   have hl3 : (World.drew (zu3 wr no a1 n1 c1 s1)).heap.size = wr.heap.size + 1 := zvc wr no a1 n1 c1 s1
   obtain ⟨a3, c3, rfl, r3⟩ := zsq ho3 HOK.out.2.1.2.1
   have hb3' : Below wr.heap.size wr w3 := FBD.trans (hb3.mono FBD.size)
   have HO3 := zab HO.out hb3'
   have KA3 := Zh (KA.out.on hb3')
   have KF3 := (zuh wr no a1 n1 c1 s1).drew.on hb3
   have KR3 := Zh (KR.out.on hb3')
   have hbw : wr.heap.size ≠ g := by omega
   have q4 := (HO3.cellAt (j * 3 + 1) (by omega)).trans G1.out
   have q5 := HO3.frozenAt (j * 3 + 1)
   have hg4 := zf3 w3 g (j * 3 + 1) (.slice a3 n1 c3)
   have HS3 : (fun w' : World => w'.cell? ⟨w.heap.size, 1, none⟩ = some (.slice (some ⟨g, 0, none⟩) n c2) /\ w'.cell? ⟨wr.heap.size, 1, none⟩ = some (.slice a1 n1 c1)) w3 := ⟨G.pk1 KA3.out, fk1 KF3⟩
   refine ⟨_, rfl, HS3, ?_⟩
   refine wpAnyH_take (i := 7) (v := (.pointer (some ⟨g, j * 3, none⟩))) rfl (by kernel_rfl) (by kernel_rfl) (by kernel_rfl) (fun _ _ _ h => h) (.inl ⟨by kernel_rfl, fun w9 hS => by go_simp⟩) HS3 ?_
   refine tk 8 ((.pointer (some ⟨g, j * 3 + 1, none⟩))) HS3 ?_
   have HS4 : (fun w' : World => w'.cell? ⟨w.heap.size, 1, none⟩ = some (.slice (some ⟨g, 0, none⟩) n c2) /\ w'.cell? ⟨wr.heap.size, 1, none⟩ = some (.slice a1 n1 c1)) (w3.setCell ⟨g, j * 3 + 1, none⟩ (.slice a3 n1 c3)) := ⟨G.pk1 (KA3.out.grown hg4 (by simp; exact hne)), fk1 (KF3.grown hg4 (by simp; exact hbw))⟩
   refine zaf (i := 9) (by kernel_rfl) (zah (w' := w3.setCell ⟨g, j * 3 + 1, none⟩ (.slice a3 n1 c3)) rfl (by kernel_rfl) (by go_simp) ⟨HS4, ?_⟩)
   refine wpAnyH_done (by kernel_rfl) ?_ _
   have hzx : FP.files (zs ++ [⟨no, a3, n1, c3, B1, s1⟩]) = FP.files (xs.take (j + 1)) := by
    obtain ⟨h1, h2⟩ := List.getElem?_eq_some_iff.1 HX.out
    rw [List.take_succ_eq_append_getElem h1, FP.files_append, FP.files_append, HZ.out, h2]; rfl
   have HZ4 := Zh hzx
   have HB4 := hB.trans (hb3'.mono hB.size)
   have HO4 : Hid ((w3.setCell ⟨g, j * 3 + 1, none⟩ (.slice a3 n1 c3)).ownsRow w.heap.size 53 3 (.slice (some ⟨g, 0, none⟩) n c2) n (FP.flat ((zs ++ [⟨no, a3, n1, c3, B1, s1⟩]) ++ xs.drop (j + 1)))) := Zh (by
    have h1 := (HO3.stored (j * 3 + 1) (.slice a3 n1 c3)).1
    obtain ⟨h2, h3⟩ := List.getElem?_eq_some_iff.1 HX.out
    rw [List.drop_eq_getElem_cons h2, h3, <- hzl, FP.flat_set] at h1
    rw [List.append_assoc, <- hzl]
    exact h1)
   have HN : Own1 w.heap.size w3 ⟨no, a3, n1, c3, B1, s1⟩ := ⟨zan ho3 (by rw [hl3]; have := hB.size; omega), HOK.out.2.1.2.1⟩
   have HN0 : ∀ h, a3 = some h -> wr.heap.size + 1 <= h.block := fun h hh => by have := (ho3.lt h.block (by rw [hh]; rfl)).1; rw [hl3] at this; exact this
   have HW4 : Hid (∀ z ∈ zs ++ [⟨no, a3, n1, c3, B1, s1⟩], Own1 w.heap.size (w3.setCell ⟨g, j * 3 + 1, none⟩ (.slice a3 n1 c3)) z) := Zh (by
    intro z hz
    have hz3 : Own1 w.heap.size w3 z := by
     rcases List.mem_append.1 hz with hz | hz
     ·exact (HW.out z hz).below hb3'
     ·simp only [List.mem_singleton] at hz
      rw [hz]; exact HN
    refine hz3.grown hg4 (fun h hh e => ?_)
    have hgg : h.block = g := by simpa using e
    have hbk : ∃ cs, w3.heap[h.block]? = some (.cells cs 5 (0, 0)) := by
     rcases hz3.1.2 with ⟨h0, _⟩ | ⟨g', cap', cur, he', _, hg', _⟩
     ·rw [hh] at h0; simp at h0
     ·rw [hh] at he'; simp only [Value.slice.injEq, Option.some.injEq] at he'; rw [he'.1]; exact ⟨_, hg'⟩
    obtain ⟨cs, hcs⟩ := hbk
    exact zt6 (t := 5) (b := h.block) HO3 hcs (.inl (by decide)) hgg)
   have HP4 : Hid (Apart (zs ++ [⟨no, a3, n1, c3, B1, s1⟩])) := Zh (by
    refine List.pairwise_append.2 ⟨HP.out, List.pairwise_singleton _ _, fun x hx y hy g1 g2 e1 e2 => ?_⟩
    simp only [List.mem_singleton] at hy
    subst hy
    have h1 := (HW.out x hx).lt e1
    have h2 := HN0 g2 e2
    omega)
   have KA4 := Zh (KA3.out.grown hg4 (by simp; exact hne))
   have KR4 := Zh (KR3.out.grown hg4 (by simp; exact hne2))
   have HB5 := Zh (HB4.setCell (p := ⟨g, j * 3 + 1, none⟩) hBg (.slice a3 n1 c3))
   clear HS3 hg4 HB4 HN HN0 HS4 q4 q5 KF3 HO3 hb3' hb3 ho3 r3 q0 q1 q2 HS0 FB FBD hzx hl3
   go_wp2
   go_roundw
   case rel => exact ⟨j + 1, zs ++ [⟨no, a3, n1, c3, B1, s1⟩], by go_num, by omega, by simp [hzl], HZ4, HO4, HW4, HP4, KA4, KR4, HB5.out⟩
   case measure => simp [intOf]; omega
  ·have hd : decide (j < n) = false := by simp; omega
   have hdn : xs.drop j = [] := List.drop_eq_nil_of_le (by rw [HD.out.1]; omega)
   have htn : xs.take j = xs := List.take_of_length_le (by rw [HD.out.1]; omega)
   rw [hdn, List.append_nil] at HO
   rw [htn] at HZ
   have hjn' : j = n := by omega
   have k0 := G.pk0 KA.out
   have k1 := G.pk1 KA.out
   have r0 := G.pk0 KR.out
   have r1 := G.pk1 KR.out
   have k2 := (G.pk KA.out).2.2.1
   have k3 := (G.pk KA.out).2.2.2
   have r2 := (G.pk KR.out).2.2.1
   have r3 := (G.pk KR.out).2.2.2
   have f0 := KR.out.frozen 0
   have f1 := KR.out.frozen 1
   have f2 := KR.out.frozen 2
   have f3 := KR.out.frozen 3
   go_wp2
   refine bodyPost_ret (G.ret_wal rfl (w.heap.size + 1) (by kernel_rfl) (G.put4 KR.out)) (by kernel_rfl) ?_
   have hsz : ∀ x ∈ zs, ∀ g, x.a = some g -> g.block ≠ w.heap.size + 1 := fun x hx g hg e => by
    rcases (HW.out x hx).1.2 with ⟨h0, _⟩ | ⟨g', cap', cur, he', _, hg', _⟩
    ·rw [hg] at h0; simp at h0
    ·rw [hg] at he'
     simp only [Value.slice.injEq, Option.some.injEq] at he'
     rw [he'.1] at e
     have e' : g' = w.heap.size + 1 := e
     rw [e'] at hg'
     have h2 : wr.heap[w.heap.size + 1]? = _ := KR.out
     rw [h2] at hg'
     simp at hg'
   have hrow : (Value.slice a2 n c2).ownBlock ≠ some (w.heap.size + 1) := fun e => by
    rcases HO.out.2 with ⟨h0, _⟩ | ⟨g', cap', cur, he', _, hg', _⟩
    ·rw [h0] at e; simp [Value.ownBlock] at e
    ·rw [he'] at e
     have e' : g' = w.heap.size + 1 := by simpa [Value.ownBlock] using e
     rw [e'] at hg'
     have h2 : wr.heap[w.heap.size + 1]? = _ := KR.out
     rw [h2] at hg'
     simp at hg'
   have gg := G.put4_grown (w := wr) (g := w.heap.size + 1) (.int .i64 k) (.slice a2 n c2) (.int .i64 wn) (.int .i64 wt)
   have hl := hjn'
   obtain ⟨a5, c5, he5, hF5, hz5⟩ := zug (HO.out.kept gg (.inr hrow)) (by omega) (fun z hz => ((HW.out z hz).grown gg (fun g hg e => hsz z hz g hg (by simpa using e))).ok)
   simp only [Value.slice.injEq, true_and] at he5
   obtain ⟨rfl, rfl⟩ := he5
   refine ⟨a2, n, c2, zs, rfl, Zh ⟨by omega, hF5, hz5⟩, HZ, Zh (fun b hb => ⟨fun g off ha _ e => ?_, fun x hx => .inr fun y hy e => ?_⟩), G.below4 hB (Nat.le_succ _) _ _ _ _⟩
   ·subst ha e
    rcases HO.out.2 with ⟨h0, _⟩ | ⟨g', cap', cur, he', hB', _⟩
    ·cases h0
    ·simp only [Value.slice.injEq, Option.some.injEq, Addr.mk.injEq] at he'; omega
   ·have h1 := (HW.out x hx).lt hy
    omega
end Go.Proofs.YtnbkkjcmblfhpaaGreat
namespace Go.Proofs.YtnbkkjcmblfhpaaGreat
open Go.RowKit
def ztr : TypeDesc -> Bool
 | .struct _ => true
 | .array _ _ => true
 | _ => false
theorem zr4 {fn : Func} {p q : Tmp} {t t' t0 t1 : TypeId} (h : fn.results = #[.cell p t, .cell q t']) {tmps : Array Value} {w : World} (g g' : Nat) (cs cs' : Array Value) {d d' : TypeDesc}
  (hp : tmps.getD p undef = .pointer (some ⟨g, 0, none⟩)) (hq : tmps.getD q undef = .pointer (some ⟨g', 0, none⟩)) (hg : Blok w g t0 cs) (hg' : Blok w g' t1 cs') (hu : Tryz.prog.underlying t = some d) (hd : ztr d = true) (hi : (Tryz.prog.info? t).map (·.size) = some cs.size)
  (hu' : Tryz.prog.underlying t' = some d') (hd' : ztr d' = true) (hi' : (Tryz.prog.info? t').map (·.size) = some cs'.size) :
  (results fn tmps).run Tryz.prog w = .ok (.tuple #[.agg cs, .agg cs']) w := by
 have hp' : tmps[p]?.getD undef = .pointer (some ⟨g, 0, none⟩) := by simpa using hp
 have hq' : tmps[q]?.getD undef = .pointer (some ⟨g', 0, none⟩) := by simpa using hq
 have hl := run_loadVar_row (P := Tryz.prog) w g t0 t cs (0, 0) _ hg hu (by cases d <;> first | rfl | cases hd) hi
 have hl' := run_loadVar_row (P := Tryz.prog) w g' t1 t' cs' (0, 0) _ hg' hu' (by cases d' <;> first | rfl | cases hd') hi'
 simp [results, h, hp', hq', asAddr, hl, hl', Result.andThen]
end Go.Proofs.YtnbkkjcmblfhpaaGreat
namespace Go.Proofs.YtnbkkjcmblfhpaaGreat
set_option maxHeartbeats 400000
set_option maxRecDepth 100000
open Go.RowKit
theorem zq9 (t : Int) (v : Bool) (hv : decide (N.tick t) = v) (w : World) :
  Calls Tryz.prog 99 #[.int .i64 t] w fun e w' => e = .returned (.bool v) /\ w' = w := by
 have HV := Zh hv
 clear hv
 go_enter Tryz.func99, Tryz.ntmps99
 go_wp2_with fail
 all_goals (go_ret; refine ⟨?_, rfl⟩; rw [<- HV.out]; first | (rw [decide_eq_false (show ¬ N.tick t by unfold N.tick; omega)]; rfl) | (rw [show decide (N.tick t) = decide (t <= 1073741824) from decide_eq_decide.2 (by unfold N.tick; omega)]; rfl))
theorem zra (k : Int) (h : 0 <= k /\ k <= 6) (w : World) :
  Calls Tryz.prog 181 #[.int .i64 k] w fun e w' => e = .returned (.tuple #[.agg #[.int .i64 0, .int .i64 (N.low k), .int .i64 0], .agg #[.int .i64 (N.hiA k), .int .i64 (N.hiB k), .int .i64 (N.hiC k)]]) /\ Below w.heap.size w w' := by
 have hk : k = 0 \/ k = 1 \/ k = 2 \/ k = 3 \/ k = 4 \/ k = 5 \/ k = 6 := by omega
 clear h
 rcases hk with rfl | rfl | rfl | rfl | rfl | rfl | rfl
 all_goals
  go_enter Tryz.func181, Tryz.ntmps181
  go_wp2_with fail
  go_region
  all_goals
   go_wp2
   refine bodyPost_ret (zr4 rfl w.heap.size (w.heap.size + 1) _ _ rfl rfl ((Blok.new w _ _).alloc _).drew (show Blok (World.drew (World.alloc (w.alloc _) _)) (w.heap.size + 1) _ _ from by simpa using (Blok.new (w.alloc _) _ _).drew) Tryz.underlying215 rfl (by kernel_rfl) Tryz.underlying215 rfl (by kernel_rfl)) (by kernel_rfl) ?_
   exact ⟨rfl, (((Below.refl _ w).alloc (Nat.le_refl _) _).alloc (by simp) _).drew⟩
def N.ecs (e : Y.Ev) : Array Value := #[.int .i64 e.k, .int .i64 e.t, .int .i64 e.a, .int .i64 e.b, .int .i64 e.c, .int .i64 e.p.q, .int .i64 e.p.i, .int .i64 e.p.h, .bool e.p.pair]
end Go.Proofs.YtnbkkjcmblfhpaaGreat
