import Derived.Laws.BitsAllLaws
import Derived.Test.YtnbkkjcmblfhpaaGreatP32
import Derived.Test.YtnbkkjcmblfhpaaGreatP22
namespace Go.Proofs.YtnbkkjcmblfhpaaGreat
set_option maxHeartbeats 600000
set_option maxRecDepth 100000
open Go.RowKit
theorem zx0 (k : Int) (a : Option Addr) (n c : Nat) (ap : Option Addr) (np cp : Nat) (xs : List FP) (ps : List Int) (w : World) (hd : zf0 w a n c xs) (hs : D.small (FP.files xs)) (hm : ¬ D.may (k, FP.files xs)) :
  Calls Tryz.prog 34 #[.agg #[.int .i64 k, .slice a n c], .slice ap np cp] w (RetD any (D.crash (k, FP.files xs) ps) w) := by
 have HD := Zh hd
 have HS := Zh hs
 have HM := Zh (decide_eq_false hm)
 have HU : Hid (D.crash (k, FP.files xs) ps = (k, FP.files xs)) := Zh (by unfold D.crash; rw [if_neg hm])
 have HBX := Zh (zui w k a n c)
 clear hd hs hm
 go_enter Tryz.func34, Tryz.ntmps34
 go_wp2
 go_step3
 go_wp2_with fail
 refine (zt7 k a n c xs (dbn w k a n c) (HD.out.below HBX.out) HS.out).mono ?_
 rintro e w1 ⟨a3, n3, c3, zs, rfl, HD3, HF3, HX3, hb1⟩
 have hb2 := hb1.trans ((zf2 w1 k a3 n3 c3).mono hb1.size)
 have X1 := Zh hb2
 have KA1 := Zh ((zf7 w k a n c).on hb2)
 have KL1 := Zh (zt2 w1 k a3 n3 c3)
 have HD4 := Zh (HD3.out.below (zf2 w1 k a3 n3 c3))
 have hfar : dFar (w.heap.size + 1) a3 zs := HX3.out _ (by rw [zun]; omega) trivial
 have hfb : ∀ b, b < w.heap.size -> dFar b a3 zs := fun b hb => HX3.out b (by rw [zun]; omega) trivial
 have kw := (zf7 w k a n c).on hb1
 have k0 : ∀ o, (w1.alloc o).cell? ⟨w.heap.size, 0, none⟩ = some (.int .i64 k) := fun o => dk0 (kw.alloc o)
 have k1 : ∀ o, (w1.alloc o).cell? ⟨w.heap.size, 1, none⟩ = some (.slice a n c) := fun o => dk1 (kw.alloc o)
 clear hb1 hb2 kw
 go_wp2_with fail
 refine (zt1 k a n c xs false (dbox w1 k a3 n3 c3) (HD.out.below (zf5 X1.out)) HM.out).mono ?_
 rintro e w2 ⟨rfl, hb2⟩
 have X2 := Zt X1 hb2
 have KL2 := Zh (KL1.out.on hb2)
 have KR2 := Zh ((zf4 w k a n c).on X2.out)
 have HD5 := Zh (HD4.out.below hb2)
 clear hb2 k0 k1
 have l0 := dk0 KL2.out
 have l1 := dk1 KL2.out
 have r0 := dk0 KR2.out
 have r1 := dk1 KR2.out
 have f0 := KR2.out.frozen 0
 have f1 := KR2.out.frozen 1
 go_wp2
 refine bodyPost_ret (zu5 (g := w.heap.size + 1) rfl k a3 n3 c3 (by kernel_rfl) KR2.out.putD) (by kernel_rfl) ?_
 exact ⟨a3, n3, c3, zs, by rw [HU.out], Zh ((HD5.out.set hfar 0 _).set hfar 1 _), Zh (by rw [HF3.out, HU.out]), Zh fun b hb _ => hfb b hb, zf1 (zf5 X2.out) (Nat.le_succ _) _ _ _ _⟩
theorem zyk (k : Int) (a : Option Addr) (n c : Nat) (ap : Option Addr) (np cp : Nat) (xs : List FP) (ps : List Int) (w : World) (hd : zf0 w a n c xs) (hs : D.small (FP.files xs)) (hm : D.may (k, FP.files xs)) (hpl : ps.length = np) (hpr : zfv .i64 w ap cp ps) (hp9 : np <= 1000) :
  Calls Tryz.prog 34 #[.agg #[.int .i64 k, .slice a n c], .slice ap np cp] w (RetD any (D.crash (k, FP.files xs) ps) w) := by
 have HD := Zh hd
 have HS := Zh hs
 have HM := Zh (decide_eq_true hm)
 have HFI : Hid (∀ f ∈ FP.files xs, D.fine f) := Zh hm.2.1
 obtain ⟨T, hT⟩ : ∃ T, D.crashed (FP.files xs) ps = T := ⟨_, rfl⟩
 have HT := Zh hT
 have HU : Hid (D.crash (k, FP.files xs) ps = (k, T)) := Zh (by unfold D.crash; rw [if_pos hm, <- hT])
 have HBX := Zh (zui w k a n c)
 have HPL := Zh hpl
 have HPR := Zh hpr
 clear hd hs hm hT hpl hpr
 go_enter Tryz.func34, Tryz.ntmps34
 go_wp2
 go_step3
 go_wp2_with fail
 refine (own_any k a n c xs (dbn w k a n c) (HD.out.below HBX.out) HS.out).mono ?_
 rintro e w1 ⟨a1, n1, c1, ys, rfl, hyl, HYF, HYR, HYO, HYA, hb1⟩
 have hnn : n1 = n := by rw [<- hyl.out, <- HD.out.1, <- FP.files_len, HYF.out, FP.files_len]
 subst hnn
 have hb2 := hb1.trans ((zf2 w1 k a1 n1 c1).mono hb1.size)
 have X1 := Zh hb2
 have KA1 := Zh ((zf7 w k a n1 c).on hb2)
 have KL1 := Zh (zt2 w1 k a1 n1 c1)
 have HYR1 := Zh (zab HYR.out (zf2 w1 k a1 n1 c1))
 have HYO1 : Hid (∀ y ∈ ys, Own1 (dbn w k a n1 c).heap.size (dbox w1 k a1 n1 c1) y) := Zh (fun y hy => (HYO.out y hy).below (zf2 w1 k a1 n1 c1))
 have hw1 : (dbn w k a n1 c).heap.size <= w1.heap.size := hb1.size
 have kw := (zf7 w k a n1 c).on hb1
 have k0 : ∀ o, (w1.alloc o).cell? ⟨w.heap.size, 0, none⟩ = some (.int .i64 k) := fun o => dk0 (kw.alloc o)
 have k1 : ∀ o, (w1.alloc o).cell? ⟨w.heap.size, 1, none⟩ = some (.slice a n1 c) := fun o => dk1 (kw.alloc o)
 clear hb1 hb2 kw HYO HYR
 go_wp2_with fail
 refine (zt1 k a n1 c xs true (dbox w1 k a1 n1 c1) (HD.out.below (zf5 X1.out)) HM.out).mono ?_
 rintro e w2 ⟨rfl, hb2⟩
 have X2 := Zt X1 hb2
 have KL2 := Zh (KL1.out.on hb2)
 replace HYR1 := Zh (zab HYR1.out hb2)
 have HYO2 : Hid (∀ y ∈ ys, Own1 (dbn w k a n1 c).heap.size w2 y) := Zh (fun y hy => (HYO1.out y hy).below hb2)
 have hw2 : w1.heap.size + 1 <= w2.heap.size := by have := hb2.size; rw [zvb] at this; exact this
 clear hb2 k0 k1 HYO1 KL1
 go_wp2_with fail
 refine (zxe ap np cp ps w2 HPL.out (HPR.out.below (zf5 X2.out))).mono ?_
 rintro e w3 ⟨g0, g1, rfl, hg01, HP3, hb3⟩
 have X3 := Zt X2 hb3
 have KL3 := Zh (KL2.out.on hb3)
 have KR3 := Zh ((zf4 w k a n1 c).on X3.out)
 replace HYR1 := Zh (zab HYR1.out hb3)
 have HYO3 : Hid (∀ y ∈ ys, Own1 (dbn w k a n1 c).heap.size w3 y) := Zh (fun y hy => (HYO2.out y hy).below hb3)
 have HPK := Zh HP3
 have HPF : Hid (∀ b off, ap = some ⟨b, off, none⟩ -> ps ≠ [] -> b < w.heap.size) := Zh (fun b off ha h0 => by
  rcases HPR.out.2.2 with h3 | ⟨b', off', he, hlt, _⟩
  ·exact absurd h3 h0
  ·rw [ha] at he; cases he; exact hlt)
 clear hb3 HP3 HYO2 KL2
 have l0 := dk0 KL3.out
 have l1 := dk1 KL3.out
 have h14 : n1 <= 14 := by have h1 := HS.out.1; simp only [FP.files_len, HD.out.1] at h1; exact h1
 have hcap := HD.out.caps
 have hml : maxLen <= 9223372036854775807 := by decide
 have hcap1 : n1 <= c1 /\ c1 <= maxLen := by
  rcases HYR1.out.2 with ⟨he, _⟩ | ⟨g, cap, cur, he, _, _, h1, h2, _⟩
  ·simp only [Value.slice.injEq] at he; omega
  ·simp only [Value.slice.injEq] at he; omega
 have hsz2 : (dbn w k a n1 c).heap.size = w.heap.size + 2 := zun w k a n1 c
 have HI0 : Hid (CInv w (dbn w k a n1 c).heap.size w1.heap.size (w.heap.size + 1) k a1 n1 c1 ys g0 g1 ap np cp ps 0 [] ([] ++ ys.drop 0) 0 w3) := Zh
  ⟨by simpa using HYR1.out, by simp, by simpa using HYO3.out, HPK.out, KL3.out, KR3.out, zf5 X3.out, by omega, fun b off h1 h2 => by have := HPF.out b off h1 h2; omega, by omega⟩
 have HG0 : Hid (FP.files ([] : List FP) ++ D.crashed (FP.files (ys.drop 0)) (ps.drop 0) = T) := Zh (by rw [<- HT.out, <- HYF.out]; rfl)
 have HFY : Hid (∀ f ∈ FP.files ys, D.fine f) := Zh (by rw [HYF.out]; exact HFI.out)
 have HSY : Hid (∀ y ∈ ys, y.B.length <= 70000) := Zh (fun y hy => HS.out.2 (FP.file y) (by rw [<- HYF.out]; exact List.mem_map.2 ⟨y, hy, rfl⟩))
 go_wp2
 go_step3
 go_wp2_with fail
 clear l0 l1
 clear HYR1 HYO3 HPK HPF KL3 KR3
 go_loopg [24] n1 (fun gh q wr => ∃ (j i : Nat) (zs : List FP), q = .int .i64 j /\ j + gh = n1 /\ zs.length = j /\ Hid (CInv w (dbn w k a n1 c).heap.size w1.heap.size (w.heap.size + 1) k a1 n1 c1 ys g0 g1 ap np cp ps j zs (zs ++ ys.drop j) i wr) /\ Hid (FP.files zs ++ D.crashed (FP.files (ys.drop j)) (ps.drop i) = T))
 case atStart => exact ⟨0, 0, [], rfl, by omega, rfl, HI0, HG0⟩
 case round =>
  obtain ⟨j, i, zs, rfl, hjn, hzl, HI, HG⟩ := hrel
  obtain ⟨wo, rfl⟩ : ∃ w0, w0 = wr := ⟨_, rfl⟩
  by_cases hlt : j < n1
  ·obtain ⟨g, cp', he, hBg, hgl⟩ := HI.out.row.form (by omega)
   simp only [Value.slice.injEq, true_and] at he
   obtain ⟨rfl, rfl⟩ := he
   have hyj : j < ys.length := by rw [hyl.out]; exact hlt
   obtain ⟨⟨no, ay, ny, cy, Ly, sy⟩, hy⟩ : ∃ y, ys[j]? = some y := ⟨_, List.getElem?_eq_getElem hyj⟩
   have hd := zu0 hy
   have hfine := HFY.out _ (List.mem_map.2 ⟨_, List.mem_of_getElem? hy, rfl⟩)
   have hO : Own1 (dbn w k a n1 c).heap.size wo ⟨no, ay, ny, cy, Ly, sy⟩ := HI.out.own _ (by rw [hd]; simp)
   have hok := hO.ok
   have hln : Ly.length = ny := hok.1
   have hs0 : 0 <= sy /\ sy <= (ny : Int) := by have h1 := hfine.2.2; simp only [FP.file] at h1; omega
   have hny : ny <= 70000 := by have h1 := HSY.out _ (List.mem_of_getElem? hy); simp only at h1; omega
   obtain ⟨s, rfl⟩ : ∃ s : Nat, sy = s := ⟨sy.toNat, by omega⟩
   have hx2 : (zs ++ ys.drop j)[j]? = some ⟨no, ay, ny, cy, Ly, (s : Int)⟩ := by
    rw [List.getElem?_append_right (by omega), hzl, Nat.sub_self, List.getElem?_drop]; simpa using hy
   obtain ⟨c0, c1', c2⟩ := FP.flat_at _ _ _ hx2
   have q0 := (HI.out.row.cellAt (j * 3) (by omega)).trans c0
   have q1 := (HI.out.row.cellAt (j * 3 + 1) (by omega)).trans c1'
   have q2 := (HI.out.row.cellAt (j * 3 + 2) (by omega)).trans c2
   have HY := Zh hy
   have Q0 := Zh c0
   have Q1 := Zh c1'
   have Q2 := Zh c2
   have HO := Zh hO
   have HLN := Zh hln
   have HD1 := Zh hd
   have FB := zud wo no ay ny cy (s : Int)
   have FK := zuh wo no ay ny cy (s : Int)
   have HIF := Zh (HI.out.on FB)
   have HGS : Hid (D.crashed (FP.files (ys.drop j)) (ps.drop i) = if (s : Int) = (Ly.length : Int) then (no, Ly, (s : Int)) :: D.crashed (FP.files (ys.drop (j + 1))) (ps.drop i) else D.after (no, Ly, (s : Int)) ((ps.drop i).getD 0 0) ((ps.drop i).getD 1 0) :: D.crashed (FP.files (ys.drop (j + 1))) ((ps.drop i).drop 2)) := Zh (by rw [hd]; rfl)
   clear hy hd hfine hO hok hx2 c0 c1' c2
   by_cases hsn : s = ny
   ·have HGN : Hid (FP.files (zs ++ [⟨no, ay, ny, cy, Ly, (s : Int)⟩]) ++ D.crashed (FP.files (ys.drop (j + 1))) (ps.drop i) = T) := Zh (by
     have h1 := HG.out
     rw [HGS.out, if_pos (by rw [HLN.out, hsn])] at h1
     rw [FP.files_append, List.append_assoc]
     exact h1)
    have HIN := Zh (HIF.out.same HYA.out HY.out)
    have hse : ((s : Int) == (ny : Int)) = true := by simp; omega
    clear hln hsn
    go_wp2
    go_roundg (n1 - (j + 1))
    case rel => exact ⟨j + 1, i, zs ++ [⟨no, ay, ny, cy, Ly, (s : Int)⟩], by go_num, by omega, by simp [hzl], HIN, HGN⟩
    case measure => omega
   ·have hse : ((s : Int) == (ny : Int)) = false := by simp; omega
    obtain ⟨gy, cy', he, hBy, hyl2⟩ := HO.out.1.form (show 0 < ny by omega)
    simp only [Value.slice.injEq, true_and] at he
    obtain ⟨rfl, rfl⟩ := he
    obtain ⟨p1, hp1⟩ : ∃ p, ps.getD i 0 = p := ⟨_, rfl⟩
    have HP1 := Zh hp1
    clear hp1
    go_wp2_with fail
    refine (zwt g0 g1 i ap np cp ps p1 (zu3 wo no (some ⟨gy, 0, none⟩) ny cy (s : Int)) hp9 HIF.out.pick HP1.out).mono ?_
    rintro e w4 ⟨rfl, ⟨i1, hi1, HP4⟩, hg4⟩
    have HI4 := Zh (HIF.out.picked hg4 HP4)
    have hne0 : wo.heap.size ≠ g0 := fun e => by have h1 := HI.out.pick.at_.lt; omega
    have FK4 := Zh (FK.grown hg4 (by simp; exact hne0))
    obtain ⟨p2, hp2⟩ : ∃ p, ps.getD i1 0 = p := ⟨_, rfl⟩
    have HP2 := Zh hp2
    have HI1 := Zh hi1
    clear hp2 hi1 hg4 HP4
    go_wp2_with fail
    refine (zwt g0 g1 i1 ap np cp ps p2 w4 hp9 HI4.out.pick HP2.out).mono ?_
    rintro e w5 ⟨rfl, ⟨i2, hi2, HP5⟩, hg5⟩
    have HI5 := Zh (HI4.out.picked hg5 HP5)
    have FK5 := Zh (FK4.out.grown hg5 (by simp; exact hne0))
    have HP3 : Hid (ps.drop i2 = (ps.drop i).drop 2 /\ (ps.drop i).getD 0 0 = p1 /\ (ps.drop i).getD 1 0 = p2) := Zh (by
     have h1 := HP1.out
     have h2 := HP2.out
     have e1 : ps.getD i1 0 = (ps.drop i1).getD 0 0 := by simp
     refine ⟨by rw [hi2, HI1.out, List.drop_drop], by simpa using h1, ?_⟩
     rw [e1, HI1.out] at h2
     simpa using h2)
    clear hi2 hg5 HP5
    have u0 := fk0 FK5.out
    have u1 := fk1 FK5.out
    have u2 := fk2 FK5.out
    have hwn : IntKind.i64.wrap ((ny : Int) - (s : Int)) = ((ny - s : Nat) : Int) := by rw [zf9 (by omega) (by omega)]; omega
    obtain ⟨E, hE⟩ : ∃ E, E = s + D.kept p1 (ny - s) := ⟨_, rfl⟩
    have hkp : D.kept p1 (ny - s) <= ny - s := by unfold D.kept; split; omega; split <;> omega
    have hEb : s <= E /\ E <= ny := by omega
    have hwe : IntKind.i64.wrap ((s : Int) + ((D.kept p1 (ny - s) : Nat) : Int)) = (E : Int) := by rw [zf9 (by omega) (by omega)]; omega
    have HE := Zh hE
    have hee : (s : Int) + ((D.kept p1 (ny - s) : Nat) : Int) = (E : Int) := by omega
    clear hE hkp
    go_wp2_with fail
    go_quiet ((go_at_call 77; exact Calls.quiet_of_same ((zxd p1 (ny - s) _).mono fun e w' h => ⟨h.1, h.2.symm⟩)))
    go_wp2_with fail
    obtain ⟨w6, hw6⟩ : ∃ w6, w6 = World.drew (w5.drewN nq) := ⟨_, rfl⟩
    have hb56 : Below w5.heap.size w5 w6 := by rw [hw6]; exact (zad _ _ _).drew
    have HI6 := Zh (HI5.out.on hb56)
    have FK6 := Zh (FK5.out.on hb56)
    have hyc : ny <= cy := by
     rcases HO.out.1.2 with ⟨he, _⟩ | ⟨q, cap, cur, he, _, _, h1, _⟩
     ·cases he
     ·simp only [Value.slice.injEq] at he; have h1' : ny <= cap := h1; omega
    have hgr : wo.heap.size ≠ g := by omega
    clear u0 u1 u2
    refine wp_region_held (S := fun w' => w'.cell? ⟨w1.heap.size, 1, none⟩ = some (.slice (some ⟨g, 0, none⟩) n1 c1) /\ w'.cell? ⟨wo.heap.size, 0, none⟩ = some (.int .i64 no) /\ w'.cell? ⟨wo.heap.size, 1, none⟩ = some (.slice (some ⟨gy, 0, none⟩) ny cy)) (by kernel_rfl) ?_
    change wpAnyH _ _ _ _ _ _ _ _ (World.drew (w5.drewN nq))
    rw [<- hw6]
    clear hw6
    have HS0 : (fun w' : World => w'.cell? ⟨w1.heap.size, 1, none⟩ = some (.slice (some ⟨g, 0, none⟩) n1 c1) /\ w'.cell? ⟨wo.heap.size, 0, none⟩ = some (.int .i64 no) /\ w'.cell? ⟨wo.heap.size, 1, none⟩ = some (.slice (some ⟨gy, 0, none⟩) ny cy)) w6 := ⟨dk1 HI6.out.lbox, fk0 FK6.out, fk1 FK6.out⟩
    refine tk 0 ((.pointer (some ⟨w1.heap.size, 1, none⟩))) HS0 ?_
    refine wpAnyH_take (i := 1) (v := (.slice (some ⟨g, 0, none⟩) n1 c1)) rfl (by kernel_rfl) (by kernel_rfl) (by kernel_rfl) (fun _ _ _ h => h) (.inl ⟨by kernel_rfl, fun w9 hS => by have c := hS.1; go_simp⟩) HS0 ?_
    refine tk 2 ((.int .i64 (j : Int))) HS0 ?_
    refine tk 3 ((.pointer (some ⟨wo.heap.size, 0, none⟩))) HS0 ?_
    refine wpAnyH_take (i := 4) (v := (.int .i64 no)) rfl (by kernel_rfl) (by kernel_rfl) (by kernel_rfl) (fun _ _ _ h => h) (.inl ⟨by kernel_rfl, fun w9 hS => by have c := hS.2.1; go_simp⟩) HS0 ?_
    refine tk 5 ((.pointer (some ⟨wo.heap.size, 1, none⟩))) HS0 ?_
    refine wpAnyH_take (i := 6) (v := (.slice (some ⟨gy, 0, none⟩) ny cy)) rfl (by kernel_rfl) (by kernel_rfl) (by kernel_rfl) (fun _ _ _ h => h) (.inl ⟨by kernel_rfl, fun w9 hS => by have c := hS.2.2; go_simp⟩) HS0 ?_
    refine tk 7 ((.int .i64 (E : Int))) HS0 ?_
    refine tk 8 ((.int .i64 (E : Int))) HS0 ?_
    refine wpAnyH_take (i := 9) (v := (.slice (some ⟨gy, 0, none⟩) E E)) rfl (by kernel_rfl) (by kernel_rfl) (by kernel_rfl) (fun _ _ _ h => h) (.inl ⟨by kernel_rfl, fun w9 hS => (zvg (a := some ⟨gy, 0, none⟩) (len := ny) (cap := cy) (h := E) (m := E) rfl (by kernel_rfl) (by kernel_rfl) (by kernel_rfl) (Nat.le_refl _) (by omega) w9).trans (by rw [zxn])⟩) HS0 ?_
    refine tk 10 ((.int .i64 (E : Int))) HS0 ?_
    refine tk 11 ((.agg #[.int .i64 no, .slice (some ⟨gy, 0, none⟩) E E, .int .i64 (E : Int)])) HS0 ?_
    refine wpAnyH_take (i := 12) (v := (.pointer (some ⟨g, j * 3, none⟩))) rfl (by kernel_rfl) (by kernel_rfl) (by kernel_rfl) (fun _ _ _ h => h) (.inl ⟨by kernel_rfl, fun w9 hS => by go_simp⟩) HS0 ?_
    have v0 := (HI6.out.row.cellAt (j * 3) (by omega)).trans (Q0.out)
    have v1 := (HI6.out.row.cellAt (j * 3 + 1) (by omega)).trans (Q1.out)
    have v2 := (HI6.out.row.cellAt (j * 3 + 2) (by omega)).trans (Q2.out)
    have z0 := HI6.out.row.frozenAt (j * 3)
    have z1 := HI6.out.row.frozenAt (j * 3 + 1)
    have z2 := HI6.out.row.frozenAt (j * 3 + 2)
    have s1 := (HI6.out.row.stored (j * 3) (.int .i64 no))
    have s2 := (s1.1.stored (j * 3 + 1) (.slice (some ⟨gy, 0, none⟩) E E))
    have s3 := (s2.1.stored (j * 3 + 2) (.int .i64 (E : Int)))
    have g7 := zvf (zvf s1.2 s2.2) s3.2
    have hr7 := s3.1
    have HI7 : Hid (∀ Bz, CInv w (dbn w k a n1 c).heap.size w1.heap.size (w.heap.size + 1) k (some ⟨g, 0, none⟩) n1 c1 ys g0 g1 ap np cp ps j zs (zs ++ ⟨no, some ⟨gy, 0, none⟩, E, E, Bz, (E : Int)⟩ :: ys.drop (j + 1)) i2 (((w6.setCell ⟨g, j * 3, none⟩ (.int .i64 no)).setCell ⟨g, j * 3 + 1, none⟩ (.slice (some ⟨gy, 0, none⟩) E E)).setCell ⟨g, j * 3 + 2, none⟩ (.int .i64 (E : Int)))) := Zh fun Bz => by
     refine HI6.out.rowset rfl g7 ?_
     have h1 := FP.flat_set3 zs ⟨no, some ⟨gy, 0, none⟩, ny, cy, Ly, (s : Int)⟩ ⟨no, some ⟨gy, 0, none⟩, E, E, Bz, (E : Int)⟩ (ys.drop (j + 1))
     rw [hzl, <- HD1.out] at h1
     rw [<- h1]
     exact hr7
    have FK7 := Zh (FK6.out.grown g7 (by simp; exact hgr))
    have HS7 : (fun w' : World => w'.cell? ⟨w1.heap.size, 1, none⟩ = some (.slice (some ⟨g, 0, none⟩) n1 c1) /\ w'.cell? ⟨wo.heap.size, 0, none⟩ = some (.int .i64 no) /\ w'.cell? ⟨wo.heap.size, 1, none⟩ = some (.slice (some ⟨gy, 0, none⟩) ny cy)) (((w6.setCell ⟨g, j * 3, none⟩ (.int .i64 no)).setCell ⟨g, j * 3 + 1, none⟩ (.slice (some ⟨gy, 0, none⟩) E E)).setCell ⟨g, j * 3 + 2, none⟩ (.int .i64 (E : Int))) := ⟨dk1 (HI7.out []).lbox, fk0 FK7.out, fk1 FK7.out⟩
    refine zaf (i := 13) (by kernel_rfl) (zah (w' := (((w6.setCell ⟨g, j * 3, none⟩ (.int .i64 no)).setCell ⟨g, j * 3 + 1, none⟩ (.slice (some ⟨gy, 0, none⟩) E E)).setCell ⟨g, j * 3 + 2, none⟩ (.int .i64 (E : Int)))) rfl (by kernel_rfl) (by go_simp) ⟨HS7, ?_⟩)
    refine wpAnyH_done (by kernel_rfl) ?_ _
    simp only [List.getElem_toArray, List.getElem_cons_succ, List.getElem_cons_zero, zc7, ztx, List.setIfInBounds_toArray, List.set_cons_succ, List.set_cons_zero]
    have HOB : Hid (Own1 (dbn w k a n1 c).heap.size (((w6.setCell ⟨g, j * 3, none⟩ (.int .i64 no)).setCell ⟨g, j * 3 + 1, none⟩ (.slice (some ⟨gy, 0, none⟩) E E)).setCell ⟨g, j * 3 + 2, none⟩ (.int .i64 (E : Int))) ⟨no, some ⟨gy, 0, none⟩, ny, cy, Ly, (s : Int)⟩) := Zh ((HI7.out []).own _ (by rw [HD1.out]; simp))
    obtain ⟨w7, hw7⟩ : ∃ w7, w7 = (((w6.setCell ⟨g, j * 3, none⟩ (.int .i64 no)).setCell ⟨g, j * 3 + 1, none⟩ (.slice (some ⟨gy, 0, none⟩) E E)).setCell ⟨g, j * 3 + 2, none⟩ (.int .i64 (E : Int))) := ⟨_, rfl⟩
    rw [<- hw7] at HI7 FK7 HOB ⊢
    have W7 := Zh hw7
    clear HS0 HS7 v0 v1 v2 z0 z1 z2 s1 s2 s3 g7 hr7 q0 q1 q2 hw7
    clear hwe hee hwn
    have HFIN : Hid (∀ (m : Nat) (X : List Int) (wi : World), X = (if p2 % 2 = 0 then Ly else D.tearing Ly m E) -> (p2 % 2 = 0 \/ (s <= m /\ (m = E \/ E <= m + 8) /\ (m = s \/ m + 8 <= E))) -> w7.grownBy wi (some gy) -> Own1 (dbn w k a n1 c).heap.size wi ⟨no, some ⟨gy, 0, none⟩, ny, cy, X, (s : Int)⟩ ->
      ∃ (j' i' : Nat) (zs' : List FP), (Value.int .i64 ((j : Int) + 1)) = .int .i64 j' /\ j' + (n1 - (j + 1)) = n1 /\ zs'.length = j' /\ Hid (CInv w (dbn w k a n1 c).heap.size w1.heap.size (w.heap.size + 1) k (some ⟨g, 0, none⟩) n1 c1 ys g0 g1 ap np cp ps j' zs' (zs' ++ ys.drop j') i' wi) /\ Hid (FP.files zs' ++ D.crashed (FP.files (ys.drop j')) (ps.drop i') = T)) := Zh (by
     intro m X wi hX hm hg hw
     have hXl : X.length = ny := hw.ok.1
     have hEl : (X.take E).length = E := by simp; omega
     have hzok : FP.ok wi ⟨no, some ⟨gy, 0, none⟩, E, E, X.take E, (E : Int)⟩ := by
      refine ⟨hEl, ?_, fun h => by cases h⟩
      have h1 := zo6 hw.ok.2.1 (l := 0) (h := E) (m := E) (Nat.zero_le _) (by simp only; omega) (Nat.le_refl _) (by have h2 := hw.ok.2.1.1; simp only at h2; omega)
      simp only [zxn, Nat.sub_zero, List.drop_zero] at h1
      exact h1
     obtain ⟨cs, hcs⟩ := zuf hw.1 (g := gy) rfl
     refine ⟨j + 1, i2, zs ++ [⟨no, some ⟨gy, 0, none⟩, E, E, X.take E, (E : Int)⟩], by simp, by omega, by simp [hzl], Zh ((HI7.out (X.take E)).bytes HYA.out HY.out rfl rfl hg hzok hcs), Zh ?_⟩
     have h1 := HG.out
     rw [HGS.out, if_neg (by rw [HLN.out]; omega), HP3.out.2.1, HP3.out.2.2, <- HP3.out.1] at h1
     rw [FP.files_append, List.append_assoc]
     have h2 : D.after (no, Ly, (s : Int)) p1 p2 = FP.file ⟨no, some ⟨gy, 0, none⟩, E, E, X.take E, (E : Int)⟩ := by
      have hle : D.left (no, Ly, (s : Int)) p1 = Ly.take E := by
       unfold D.left
       simp only [Int.toNat_natCast]
       rw [HLN.out, <- HE.out]
      unfold D.after FP.file
      simp only [hle, Int.toNat_natCast]
      have h3 : (Ly.take E).length = E := by have := HLN.out; simp; omega
      rw [h3]
      congr 2
      split
      ·rename_i hp; rw [hX, if_pos hp]
      ·rename_i hp
       rw [hX, if_neg hp]
       have h4 := hm.resolve_left hp
       exact (D.tearing_torn (by rw [HLN.out]; exact hEb.2) h4.1 h4.2.1 h4.2.2 hEb.1).symm
     rw [h2] at h1
     exact h1)
    by_cases hp : p2 % 2 = 0
    ·have ht : (p2.tmod 2 == 0) = true := by
      rw [beq_iff_eq]
      exact Int.tmod_eq_zero_of_dvd (Int.dvd_of_emod_eq_zero hp)
     have HF0 := Zh (HFIN.out E Ly w7 (by rw [if_pos hp]) (.inl hp) ⟨rfl, rfl, rfl, Nat.le_refl _, fun _ _ _ => rfl⟩ HOB.out)
     clear HFIN hp
     have u2 := fk2 FK7.out
     go_wp2_with fail
     refine wp_loop_rounds 1 ?_
     rw [rounds_succ]
     by_cases hsE : s < E
     ·have d1 : decide ((s : Int) <= (E : Int) - 1) = true := by simp; omega
      go_wp2
      go_roundg (n1 - (j + 1))
      case rel => exact HF0.out
      case measure => omega
     ·have d1 : decide ((s : Int) <= (E : Int) - 1) = false := by simp; omega
      go_wp2
      go_roundg (n1 - (j + 1))
      case rel => exact HF0.out
      case measure => omega
    ·have ht : (p2.tmod 2 == 0) = false := by
      rw [beq_eq_false_iff_ne]
      intro h
      exact hp (Int.emod_eq_zero_of_dvd (Int.dvd_of_tmod_eq_zero h))
     have HPO := Zh hp
     have hgy : wo.heap.size ≠ gy := by omega
     have HOB0 : Hid (Own1 (dbn w k a n1 c).heap.size w7 ⟨no, some ⟨gy, 0, none⟩, ny, cy, D.tearing Ly E E, (s : Int)⟩) := Zh (by rw [D.tearing_none]; exact HOB.out)
     clear hp
     go_wp2_with fail
     go_loopg [12] (E - s) (fun gh q wx => ∃ m : Nat, q = .int .i64 ((m : Int) - 1) /\ m = s + gh /\ m <= E /\ (m = E \/ E <= m + 8) /\ w7.grownBy wx (some gy) /\ Hid (Own1 (dbn w k a n1 c).heap.size wx ⟨no, some ⟨gy, 0, none⟩, ny, cy, D.tearing Ly m E, (s : Int)⟩))
     case atStart => exact ⟨E, rfl, by omega, Nat.le_refl _, .inl rfl, ⟨rfl, rfl, rfl, Nat.le_refl _, fun _ _ _ => rfl⟩, HOB0⟩
     case round =>
      obtain ⟨m, rfl, hms, hmE, hm8, hgx, HOX⟩ := hrel
      have FKX := FK7.out.grown hgx (by simp; exact hgy)
      have u1 := fk1 FKX
      have u2 := fk2 FKX
      by_cases hm : m = s
      ·have HF0 := Zh (HFIN.out m _ wr (by rw [if_neg HPO.out]) (.inr ⟨by omega, hm8, .inl hm⟩) hgx HOX.out)
       have d1 : decide ((s : Int) <= (m : Int) - 1) = false := by simp; omega
       clear hm hms hm8
       go_wp2
       go_roundg (n1 - (j + 1))
       case rel => exact HF0.out
       case measure => omega
      ·obtain ⟨r, rfl⟩ : ∃ r, m = r + 1 := ⟨m - 1, by omega⟩
       have he : ((r + 1 : Nat) : Int) - 1 = (r : Int) := by omega
       simp only [he]
       clear he
       have hsr : s <= r := by omega
       have hrE : r < E := by omega
       have hr1 : r < ny := by omega
       by_cases h8 : r + 9 <= E
       ·have HF0 := Zh (HFIN.out (r + 1) _ wr (by rw [if_neg HPO.out]) (.inr ⟨by omega, hm8, .inr (by omega)⟩) hgx HOX.out)
        have d2 : decide ((8 : Int) < (E : Int) - (r : Int)) = true := by simp; omega
        have hw8 : IntKind.i64.wrap ((E : Int) - (r : Int)) = (E : Int) - (r : Int) := zf9 (by omega) (by omega)
        clear hms hm8 h8 hm
        go_wp2
        go_roundg (n1 - (j + 1))
        case rel => exact HF0.out
        case measure => omega
       ·have d2 : decide ((8 : Int) < (E : Int) - (r : Int)) = false := by simp; omega
        have hE8 : E <= r + 8 := by omega
        have hw8 : IntKind.i64.wrap ((E : Int) - (r : Int)) = (E : Int) - (r : Int) := zf9 (by omega) (by omega)
        have hXl : (D.tearing Ly (r + 1) E).length = ny := by rw [D.tearing_len]; exact HLN.out
        obtain ⟨o, ho, ho8⟩ : ∃ o : Nat, (D.tearing Ly (r + 1) E).getD r 0 = (o : Int) /\ o < 256 := by
         have h1 := zo9 HOX.out.2 ((D.tearing Ly (r + 1) E).getD r 0) (by simp [hXl, hr1])
         exact ⟨((D.tearing Ly (r + 1) E).getD r 0).toNat, by omega, by omega⟩
        have hcell : wr.cell? ⟨gy, r, none⟩ = some (.int .u8 (o : Int)) := by
         rw [HOX.out.1.cellAt r (by simp only; omega), <- ho]
         simp [hXl, hr1]
        have hfz := HOX.out.1.frozenAt r
        obtain ⟨t, ht'⟩ : ∃ t : Nat, t = o ^^^ 165 := ⟨_, rfl⟩
        have ht8 : t < 256 := by rw [ht']; exact Nat.xor_lt_two_pow (n := 8) ho8 (by decide)
        have hbx : bits .xor .u8 (o : Int) 165 = (t : Int) := by rw [ht']; exact u8_xor_nat o 165 ho8 (by decide)
        have htear : D.tear (Ly.getD r 0) = (t : Int) := by
         rw [<- D.tearing_at (L := Ly) (m := r) (E := E) (by rw [HLN.out]; exact hr1), ho, ht']
         unfold D.tear
         simp
        have HST : Hid (D.tearing Ly r E = (D.tearing Ly (r + 1) E).set r (t : Int)) := Zh (by rw [D.tearing_step (by rw [HLN.out]; exact hEb.2) (by omega), htear])
        have HNX : Hid (Own1 (dbn w k a n1 c).heap.size (wr.setCell ⟨gy, r, none⟩ (.int .u8 (t : Int))) ⟨no, some ⟨gy, 0, none⟩, ny, cy, D.tearing Ly r E, (s : Int)⟩) := Zh (by
         rw [HST.out]
         refine ⟨?_, fun x hx => ?_⟩
         ·have h1 := (HOX.out.1.stored r (.int .u8 (t : Int))).1
          rw [<- List.map_set] at h1
          exact h1
         ·rcases List.mem_or_eq_of_mem_set hx with h | rfl
          ·exact HOX.out.2 x h
          ·simp [Lit.wf, IntKind.min, IntKind.max, IntKind.bits, IntKind.signed]; omega)
        have hgx2 := Zh (zvf hgx (zf3 wr gy r (.int .u8 (t : Int))))
        clear hm8 h8 hm ht' htear ho hgx HOX hXl
        go_wp2
        go_roundg (r - s)
        case rel => exact ⟨r, by go_num, by omega, by omega, .inr (by omega), hgx2.out, HNX⟩
        case measure => omega
  ·have hjn' : j = n1 := by omega
   have hdn : ys.drop j = [] := List.drop_eq_nil_of_le (by rw [hyl.out]; omega)
   have hd : decide (j < n1) = false := by simp; omega
   rw [hdn] at HI HG
   rw [List.append_nil] at HI
   have HFZ : Hid (FP.files zs = T) := Zh (by have h1 := HG.out; simpa [FP.files, D.crashed] using h1)
   have l0 := dk0 HI.out.lbox
   have l1 := dk1 HI.out.lbox
   have r0 := dk0 HI.out.rbox
   have r1 := dk1 HI.out.rbox
   have f0 := HI.out.rbox.frozen 0
   have f1 := HI.out.rbox.frozen 1
   have hfar : ∀ b, b < w.heap.size + 2 -> dFar b a1 zs := fun b hb => by
    refine ⟨?_, fun z hz => ?_⟩
    ·rintro q off rfl _ rfl
     have := (HI.out.row.lt q rfl).1
     omega
    ·rcases (HI.out.gone z hz).2 with h0 | ⟨q, cs, h1, h2, _⟩
     ·refine .inl (List.eq_nil_of_length_eq_zero ?_)
      rw [(HI.out.gone z hz).1.1]
      exact ((HI.out.gone z hz).1.2.2 h0).1
     ·refine .inr fun y hy hyb => ?_
      rw [h1] at hy
      cases hy
      simp only at hyb
      omega
   have HDZ : Hid (zf0 wo a1 n1 c1 zs) := Zh (by
    obtain ⟨a', c', he, h1, h2⟩ := zug HI.out.row (by omega) (fun z hz => (HI.out.gone z hz).1)
    simp only [Value.slice.injEq, true_and] at he
    obtain ⟨rfl, rfl⟩ := he
    exact ⟨by omega, h1, h2⟩)
   have HFA := Zh hfar
   have KRZ := Zh HI.out.rbox
   have HBZ := Zh HI.out.below
   clear hfar hjn' hzl
   go_wp2
   (try rw [Exit.noGoto_ret])
   refine bodyPost_ret (zu5 (g := w.heap.size + 1) rfl k a1 n1 c1 (by kernel_rfl) KRZ.out.putD) (by kernel_rfl) ?_
   exact ⟨a1, n1, c1, zs, by rw [HU.out], Zh ((HDZ.out.set (HFA.out _ (by omega)) 0 _).set (HFA.out _ (by omega)) 1 _), Zh (by rw [HFZ.out, HU.out]), Zh fun b hb _ => HFA.out b (by omega), zf1 HBZ.out (Nat.le_succ _) _ _ _ _⟩
theorem zx1 (k : Int) (a : Option Addr) (n c : Nat) (ap : Option Addr) (np cp : Nat) (xs : List FP) (ps : List Int) (w : World) (hd : zf0 w a n c xs) (hs : D.small (FP.files xs)) (hpl : ps.length = np) (hpr : zfv .i64 w ap cp ps) (hp9 : np <= 1000) :
  Calls Tryz.prog 34 #[.agg #[.int .i64 k, .slice a n c], .slice ap np cp] w (RetD any (D.crash (k, FP.files xs) ps) w) := by
 by_cases hm : D.may (k, FP.files xs)
 ·exact zyk k a n c ap np cp xs ps w hd hs hm hpl hpr hp9
 ·exact zx0 k a n c ap np cp xs ps w hd hs hm
end Go.Proofs.YtnbkkjcmblfhpaaGreat
