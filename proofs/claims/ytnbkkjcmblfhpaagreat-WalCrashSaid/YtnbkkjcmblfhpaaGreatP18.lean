import Derived.RangeFuncNested
import Derived.RangeFuncCalls
import Derived.OrdersIn
import Derived.OrdersHeld
import Derived.OwnWalkIn
import Derived.Test.YtnbkkjcmblfhpaaGreatP17
import Derived.Test.YtnbkkjcmblfhpaaGreatP14
import Derived.Test.YtnbkkjcmblfhpaaGreatP15
import Derived.Test.YtnbkkjcmblfhpaaGreatP13
import Derived.Test.YtnbkkjcmblfhpaaGreatP0
namespace Go.Proofs.YtnbkkjcmblfhpaaGreat
set_option maxHeartbeats 1000000
set_option maxRecDepth 100000
open Go.RowKit
theorem zq2 (l Bs H : Nat) (s : Y.St) (A : Y.A9) (hk : J.ok s) (Q : Nat -> List J.Part -> World -> Prop) (W W0 : World) (hab : ∀ z, AbidesFrom W.heap.size (Q z))
  (hY : ∀ z pre x V0 V, Q z pre V0 -> Below V0.heap.size V0 V -> J.Fresh W.heap.size z x V0 V -> pre.length < 5 -> YieldAt Fence.wide 0 Tryz.prog l (J.encP x) V fun e V' => e = .returned (.bool true) /\ Q z (pre ++ [x]) V' /\ J.KpT H Bs z V V')
  (hB : Blok W Bs 37 (Y.cs s A).toArray) (hH : W0.heap.size <= H) (hHW : H <= W.heap.size) (hW0 : Below H W0 W) (hi : Y.SIn W0 A s) (h0 : ∀ z, W.heap.size <= z -> Q z [] W) :
  Calls Tryz.prog 151 #[.func (.yield l) #[] #[], .pointer (some ⟨Bs, 0, none⟩)] W fun e V => (∃ v, e = .returned v) /\ ∃ z xs, xs.map (fun x => x.2.2) = J.parts s /\ Q z xs V := by
 obtain ⟨ap, np, cp, al, nl, cl, ah, nh, ch⟩ := A
 have HM := Zh hk.1
 have HI := Zh hi
 have HAB := Zh hab
 have HY := Zh hY
 have HQ00 := Zh h0
 have HW0 := Zh hW0
 have hml := hk.1.2.2.2.2.1
 have hmh := J.held_len hk.1
 have hnl : nl <= 600 := by have : s.l.length = nl := hi.l.1; omega
 have hnh : nh <= 600 := by have : s.h.length = nh := hi.h.1; omega
 have hBs := hB.lt
 unfold Y.cs at hB
 have KB0 := Zh hB
 clear hk hi hab hY h0 hW0 hB
 obtain ⟨z, hz⟩ : ∃ z, W.heap.size = z := ⟨_, rfl⟩
 obtain ⟨w1, hw1⟩ : ∃ V, W.alloc (.cells #[.func (.yield l) #[] #[]] 157) = V := ⟨_, rfl⟩
 have hb1 : Below W.heap.size W w1 := by rw [<- hw1]; exact (Below.refl _ W).alloc (Nat.le_refl _) _
 have KZ1 : Hid (Blok w1 z 157 #[.func (.yield l) #[] #[]]) := Zh (by rw [<- hw1, <- hz]; exact Blok.new W _ _)
 have KB1 := Zh (KB0.out.below hb1 KB0.out.lt)
 have HQ1 : Hid (Q z [] w1) := Zh (HAB.out z [] W _ none (HQ00.out z (by omega)) (J.below_grownN hb1) (fun r e => by cases e))
 have HB1 : Hid (Below H W w1) := Zh (hb1.mono hHW)
 have hz1 : z < w1.heap.size := KZ1.out.lt
 have hwz : W.heap.size <= z := by omega
 clear hb1 KB0 HQ00
 skip
 go_enter Tryz.func151, Tryz.ntmps151
 skip
 obtain ⟨c0, c1, c2, c3, c4, c5, c6, c7, c8, c9, c10, c11, c12, c13, c14, c15⟩ := Y.cs16 KB1.out
 have HIn : Hid (Y.SIn w1 ⟨ap, np, cp, al, nl, cl, ah, nh, ch⟩ s) := Zh (HI.out.below ((HW0.out.trans HB1.out).mono hH))
 go_wp2_with fail
 try rw [hw1]
 try rw [hz]
 clear hw1
 refine (zr0 s ⟨ap, np, cp, al, nl, cl, ah, nh, ch⟩ HM.out w1 HIn.out).mono ?_
 clear c0 c1 c2 c3 c4 c5 c6 c7 c8 c9 c10 c11 c12 c13 c14 c15
 rintro e w1a ⟨a1, k1, rfl, hr, hba⟩
 go_wp2_with fail
 refine (zrt a1 _ k1 (J.nums s) w1a rfl hr.out).mono ?_
 rintro e w1b ⟨v, okk, rfl, hok, hown, hbb⟩
 have e1 : M.all (J.nums s) = some ((J.pt1 s).getD []) := J.pt1_yes' HM.out
 rw [e1] at hok hown
 simp only [Option.isSome_some, Option.getD_some] at hok hown
 subst hok
 clear e1
 obtain ⟨b0, hbx0⟩ : ∃ b, (J.pt1 s).getD [] = b := ⟨_, rfl⟩
 have HX0 := Zh hbx0
 have hwf0 : ∀ c ∈ b0, (Lit.int .u8 c).wf = true := by rw [<- hbx0]; exact zsn _
 have hlen0 : b0.length <= 400 := by rw [<- hbx0]; have := J.parts_len HM.out; omega
 rw [hbx0] at hown
 clear hbx0
 obtain ⟨p0, q0, rfl, hrow, hnil, hup⟩ := J.part_of hown hwf0
 have hbv : Below w1.heap.size w1 w1b := hba.trans (hbb.mono hba.size)
 have hfr : J.Fresh W.heap.size z (p0, q0, b0) w1 w1b := ⟨hrow, hnil, fun q hq => Nat.le_trans hba.size (hup q hq), hwz, hz1, hlen0⟩
 have hya := HY.out z [] (p0, q0, b0) w1 w1b HQ1.out hbv hfr (by simp)
 have KZv := KZ1.out.below hbv KZ1.out.lt
 have KBv := KB1.out.below hbv KB1.out.lt
 clear hfr hrow hnil hup hown HIn hr hwf0
 go_wp2_with fail
 refine (znt l z p0 b0.length q0 w1b KZv (fun V' => Q z ([] ++ [(p0, q0, b0)]) V' /\ J.KpT H Bs z w1b V') hya).mono ?_
 clear hya
 rintro e w2 ⟨rfl, hq, hkp⟩
 have HQ2 : Hid (Q z [(p0, q0, b0)] w2) := Zh hq
 have KB2 : Hid (Blok w2 Bs 37 #[.int .i64 s.d.b, .int .i64 s.d.k, .int .i64 s.d.c, .int .i64 s.d.j, .int .i64 s.d.lo, .int .i64 s.d.hi, .int .i64 s.d.dy, .int .i64 s.d.bl, .int .i64 s.p.q, .int .i64 s.p.i, .int .i64 s.p.h, .bool s.p.pair, .int .i64 s.now, .slice ap np cp, .slice al nl cl, .slice ah nh ch]) := Zh (hkp.2.1.trans KBv)
 have KZ2 : Hid (Blok w2 z 157 #[.func (.yield l) #[] #[]]) := Zh (hkp.2.2 _ _ _ KZv)
 have HB2 : Hid (Below H W w2) := Zh ((HB1.out.trans (hbv.mono (Nat.le_trans hHW HB1.out.size))).trans hkp.1)
 have hz2 : z < w2.heap.size := KZ2.out.lt
 clear hq hkp KZv KBv hbv hba hbb HQ1 KB1 KZ1 HB1 hz1
 have c14 := Zv KB2.out 14 (.slice al nl cl)
 have HIn : Hid (Y.SIn w2 ⟨ap, np, cp, al, nl, cl, ah, nh, ch⟩ s) := Zh (HI.out.below ((HW0.out.trans HB2.out).mono hH))
 go_wp2_with fail
 refine (zpv 156 (enters_of Tryz.func156 (by kernel_rfl) rfl) J.lN al nl cl s.l (fun x hx V => zqe x (by have := J.ls_in HM.out hx; exact ⟨this.1, this.2.1, this.2.2.1⟩) V) (fun x hx => by have := J.ls_in HM.out hx; unfold J.lN; exact WalkArith.wf_i64 (by omega)) w2 HIn.out.l (by omega)).mono ?_
 clear c14
 rintro e w2a ⟨a1, k1, rfl, hr, hba⟩
 go_wp2_with fail
 refine (zqk a1 _ k1 (s.l.map J.lN) 10 w2a (by rw [List.length_map]; exact HIn.out.l.1) hr.out).mono ?_
 rintro e w2b ⟨v, okk, rfl, hok, hown, hbb⟩
 have e1 : K.pack (s.l.map J.lN) 10 = some ((J.pt2 s).getD []) := J.pt2_yes HM.out
 rw [e1] at hok hown
 simp only [Option.isSome_some, Option.getD_some] at hok hown
 subst hok
 clear e1
 obtain ⟨b1, hbx1⟩ : ∃ b, (J.pt2 s).getD [] = b := ⟨_, rfl⟩
 have HX1 := Zh hbx1
 have hwf1 : ∀ c ∈ b1, (Lit.int .u8 c).wf = true := by rw [<- hbx1]; exact K.pack_wf _ _
 have hlen1 : b1.length <= 400 := by rw [<- hbx1]; have := J.parts_len HM.out; omega
 rw [hbx1] at hown
 clear hbx1
 obtain ⟨p1, q1, rfl, hrow, hnil, hup⟩ := J.part_of hown hwf1
 have hbv : Below w2.heap.size w2 w2b := hba.trans (hbb.mono hba.size)
 have hfr : J.Fresh W.heap.size z (p1, q1, b1) w2 w2b := ⟨hrow, hnil, fun q hq => Nat.le_trans hba.size (hup q hq), hwz, hz2, hlen1⟩
 have hya := HY.out z [(p0, q0, b0)] (p1, q1, b1) w2 w2b HQ2.out hbv hfr (by simp)
 have KZv := KZ2.out.below hbv KZ2.out.lt
 have KBv := KB2.out.below hbv KB2.out.lt
 clear hfr hrow hnil hup hown HIn hr hwf1
 go_wp2_with fail
 refine (znt l z p1 b1.length q1 w2b KZv (fun V' => Q z ([(p0, q0, b0)] ++ [(p1, q1, b1)]) V' /\ J.KpT H Bs z w2b V') hya).mono ?_
 clear hya
 rintro e w3 ⟨rfl, hq, hkp⟩
 have HQ3 : Hid (Q z [(p0, q0, b0), (p1, q1, b1)] w3) := Zh hq
 have KB3 : Hid (Blok w3 Bs 37 #[.int .i64 s.d.b, .int .i64 s.d.k, .int .i64 s.d.c, .int .i64 s.d.j, .int .i64 s.d.lo, .int .i64 s.d.hi, .int .i64 s.d.dy, .int .i64 s.d.bl, .int .i64 s.p.q, .int .i64 s.p.i, .int .i64 s.p.h, .bool s.p.pair, .int .i64 s.now, .slice ap np cp, .slice al nl cl, .slice ah nh ch]) := Zh (hkp.2.1.trans KBv)
 have KZ3 : Hid (Blok w3 z 157 #[.func (.yield l) #[] #[]]) := Zh (hkp.2.2 _ _ _ KZv)
 have HB3 : Hid (Below H W w3) := Zh ((HB2.out.trans (hbv.mono (Nat.le_trans hHW HB2.out.size))).trans hkp.1)
 have hz3 : z < w3.heap.size := KZ3.out.lt
 clear hq hkp KZv KBv hbv hba hbb HQ2 KB2 KZ2 HB2 hz2
 have c14 := Zv KB3.out 14 (.slice al nl cl)
 have HIn : Hid (Y.SIn w3 ⟨ap, np, cp, al, nl, cl, ah, nh, ch⟩ s) := Zh (HI.out.below ((HW0.out.trans HB3.out).mono hH))
 go_wp2_with fail
 refine (zpv 158 (enters_of Tryz.func158 (by kernel_rfl) rfl) L.Ls.f al nl cl s.l (fun x _ V => zry x V) (fun x hx => by have := J.ls_in HM.out hx; exact WalkArith.wf_i64 (by omega)) w3 HIn.out.l (by omega)).mono ?_
 clear c14
 rintro e w3a ⟨a1, k1, rfl, hr, hba⟩
 go_wp2_with fail
 refine (zpq a1 _ k1 (s.l.map L.Ls.f) w3a (by rw [List.length_map]; exact HIn.out.l.1) hr.out).mono ?_
 rintro e w3b ⟨v, okk, rfl, hok, hown, hbb⟩
 have e1 : Z.steps (s.l.map L.Ls.f) = some ((J.pt3 s).getD []) := J.pt3_yes HM.out
 rw [e1] at hok hown
 simp only [Option.isSome_some, Option.getD_some] at hok hown
 subst hok
 clear e1
 obtain ⟨b2, hbx2⟩ : ∃ b, (J.pt3 s).getD [] = b := ⟨_, rfl⟩
 have HX2 := Zh hbx2
 have hwf2 : ∀ c ∈ b2, (Lit.int .u8 c).wf = true := by rw [<- hbx2]; exact Z.steps_wf _
 have hlen2 : b2.length <= 400 := by rw [<- hbx2]; have := J.parts_len HM.out; omega
 rw [hbx2] at hown
 clear hbx2
 obtain ⟨p2, q2, rfl, hrow, hnil, hup⟩ := J.part_of hown hwf2
 have hbv : Below w3.heap.size w3 w3b := hba.trans (hbb.mono hba.size)
 have hfr : J.Fresh W.heap.size z (p2, q2, b2) w3 w3b := ⟨hrow, hnil, fun q hq => Nat.le_trans hba.size (hup q hq), hwz, hz3, hlen2⟩
 have hya := HY.out z [(p0, q0, b0), (p1, q1, b1)] (p2, q2, b2) w3 w3b HQ3.out hbv hfr (by simp)
 have KZv := KZ3.out.below hbv KZ3.out.lt
 have KBv := KB3.out.below hbv KB3.out.lt
 clear hfr hrow hnil hup hown HIn hr hwf2
 go_wp2_with fail
 refine (znt l z p2 b2.length q2 w3b KZv (fun V' => Q z ([(p0, q0, b0), (p1, q1, b1)] ++ [(p2, q2, b2)]) V' /\ J.KpT H Bs z w3b V') hya).mono ?_
 clear hya
 rintro e w4 ⟨rfl, hq, hkp⟩
 have HQ4 : Hid (Q z [(p0, q0, b0), (p1, q1, b1), (p2, q2, b2)] w4) := Zh hq
 have KB4 : Hid (Blok w4 Bs 37 #[.int .i64 s.d.b, .int .i64 s.d.k, .int .i64 s.d.c, .int .i64 s.d.j, .int .i64 s.d.lo, .int .i64 s.d.hi, .int .i64 s.d.dy, .int .i64 s.d.bl, .int .i64 s.p.q, .int .i64 s.p.i, .int .i64 s.p.h, .bool s.p.pair, .int .i64 s.now, .slice ap np cp, .slice al nl cl, .slice ah nh ch]) := Zh (hkp.2.1.trans KBv)
 have KZ4 : Hid (Blok w4 z 157 #[.func (.yield l) #[] #[]]) := Zh (hkp.2.2 _ _ _ KZv)
 have HB4 : Hid (Below H W w4) := Zh ((HB3.out.trans (hbv.mono (Nat.le_trans hHW HB3.out.size))).trans hkp.1)
 have hz4 : z < w4.heap.size := KZ4.out.lt
 clear hq hkp KZv KBv hbv hba hbb HQ3 KB3 KZ3 HB3 hz3
 have c15 := Zv KB4.out 15 (.slice ah nh ch)
 have HIn : Hid (Y.SIn w4 ⟨ap, np, cp, al, nl, cl, ah, nh, ch⟩ s) := Zh (HI.out.below ((HW0.out.trans HB4.out).mono hH))
 go_wp2_with fail
 refine (zpw 160 (enters_of Tryz.func160 (by kernel_rfl) rfl) J.hN ah nh ch s.h (fun x hx V => zrx x (by have := J.hd_in HM.out hx; exact ⟨this.1, this.2.1⟩) V) (fun x hx => by have := J.hd_in HM.out hx; unfold J.hN; exact WalkArith.wf_i64 (by omega)) w4 HIn.out.h (by omega)).mono ?_
 clear c15
 rintro e w4a ⟨a1, k1, rfl, hr, hba⟩
 go_wp2_with fail
 refine (zqk a1 _ k1 (s.h.map J.hN) 5 w4a (by rw [List.length_map]; exact HIn.out.h.1) hr.out).mono ?_
 rintro e w4b ⟨v, okk, rfl, hok, hown, hbb⟩
 have e1 : K.pack (s.h.map J.hN) 5 = some ((J.pt4 s).getD []) := J.pt4_yes HM.out
 rw [e1] at hok hown
 simp only [Option.isSome_some, Option.getD_some] at hok hown
 subst hok
 clear e1
 obtain ⟨b3, hbx3⟩ : ∃ b, (J.pt4 s).getD [] = b := ⟨_, rfl⟩
 have HX3 := Zh hbx3
 have hwf3 : ∀ c ∈ b3, (Lit.int .u8 c).wf = true := by rw [<- hbx3]; exact K.pack_wf _ _
 have hlen3 : b3.length <= 400 := by rw [<- hbx3]; have := J.parts_len HM.out; omega
 rw [hbx3] at hown
 clear hbx3
 obtain ⟨p3, q3, rfl, hrow, hnil, hup⟩ := J.part_of hown hwf3
 have hbv : Below w4.heap.size w4 w4b := hba.trans (hbb.mono hba.size)
 have hfr : J.Fresh W.heap.size z (p3, q3, b3) w4 w4b := ⟨hrow, hnil, fun q hq => Nat.le_trans hba.size (hup q hq), hwz, hz4, hlen3⟩
 have hya := HY.out z [(p0, q0, b0), (p1, q1, b1), (p2, q2, b2)] (p3, q3, b3) w4 w4b HQ4.out hbv hfr (by simp)
 have KZv := KZ4.out.below hbv KZ4.out.lt
 have KBv := KB4.out.below hbv KB4.out.lt
 clear hfr hrow hnil hup hown HIn hr hwf3
 go_wp2_with fail
 refine (znt l z p3 b3.length q3 w4b KZv (fun V' => Q z ([(p0, q0, b0), (p1, q1, b1), (p2, q2, b2)] ++ [(p3, q3, b3)]) V' /\ J.KpT H Bs z w4b V') hya).mono ?_
 clear hya
 rintro e w5 ⟨rfl, hq, hkp⟩
 have HQ5 : Hid (Q z [(p0, q0, b0), (p1, q1, b1), (p2, q2, b2), (p3, q3, b3)] w5) := Zh hq
 have KB5 : Hid (Blok w5 Bs 37 #[.int .i64 s.d.b, .int .i64 s.d.k, .int .i64 s.d.c, .int .i64 s.d.j, .int .i64 s.d.lo, .int .i64 s.d.hi, .int .i64 s.d.dy, .int .i64 s.d.bl, .int .i64 s.p.q, .int .i64 s.p.i, .int .i64 s.p.h, .bool s.p.pair, .int .i64 s.now, .slice ap np cp, .slice al nl cl, .slice ah nh ch]) := Zh (hkp.2.1.trans KBv)
 have KZ5 : Hid (Blok w5 z 157 #[.func (.yield l) #[] #[]]) := Zh (hkp.2.2 _ _ _ KZv)
 have HB5 : Hid (Below H W w5) := Zh ((HB4.out.trans (hbv.mono (Nat.le_trans hHW HB4.out.size))).trans hkp.1)
 have hz5 : z < w5.heap.size := KZ5.out.lt
 clear hq hkp KZv KBv hbv hba hbb HQ4 KB4 KZ4 HB4 hz4
 have c15 := Zv KB5.out 15 (.slice ah nh ch)
 have HIn : Hid (Y.SIn w5 ⟨ap, np, cp, al, nl, cl, ah, nh, ch⟩ s) := Zh (HI.out.below ((HW0.out.trans HB5.out).mono hH))
 go_wp2_with fail
 refine (zpw 161 (enters_of Tryz.func161 (by kernel_rfl) rfl) L.T3.x ah nh ch s.h (fun x _ V => zrz x V) (fun x hx => by have := J.hd_in HM.out hx; exact WalkArith.wf_i64 (by omega)) w5 HIn.out.h (by omega)).mono ?_
 clear c15
 rintro e w5a ⟨a1, k1, rfl, hr, hba⟩
 go_wp2_with fail
 refine (zpq a1 _ k1 (s.h.map L.T3.x) w5a (by rw [List.length_map]; exact HIn.out.h.1) hr.out).mono ?_
 rintro e w5b ⟨v, okk, rfl, hok, hown, hbb⟩
 have e1 : Z.steps (s.h.map L.T3.x) = some ((J.pt5 s).getD []) := J.pt5_yes HM.out
 rw [e1] at hok hown
 simp only [Option.isSome_some, Option.getD_some] at hok hown
 subst hok
 clear e1
 obtain ⟨b4, hbx4⟩ : ∃ b, (J.pt5 s).getD [] = b := ⟨_, rfl⟩
 have HX4 := Zh hbx4
 have hwf4 : ∀ c ∈ b4, (Lit.int .u8 c).wf = true := by rw [<- hbx4]; exact Z.steps_wf _
 have hlen4 : b4.length <= 400 := by rw [<- hbx4]; have := J.parts_len HM.out; omega
 rw [hbx4] at hown
 clear hbx4
 obtain ⟨p4, q4, rfl, hrow, hnil, hup⟩ := J.part_of hown hwf4
 have hbv : Below w5.heap.size w5 w5b := hba.trans (hbb.mono hba.size)
 have hfr : J.Fresh W.heap.size z (p4, q4, b4) w5 w5b := ⟨hrow, hnil, fun q hq => Nat.le_trans hba.size (hup q hq), hwz, hz5, hlen4⟩
 have hya := HY.out z [(p0, q0, b0), (p1, q1, b1), (p2, q2, b2), (p3, q3, b3)] (p4, q4, b4) w5 w5b HQ5.out hbv hfr (by simp)
 have KZv := KZ5.out.below hbv KZ5.out.lt
 have KBv := KB5.out.below hbv KB5.out.lt
 clear hfr hrow hnil hup hown HIn hr hwf4
 go_wp2_with fail
 refine (znt l z p4 b4.length q4 w5b KZv (fun V' => Q z ([(p0, q0, b0), (p1, q1, b1), (p2, q2, b2), (p3, q3, b3)] ++ [(p4, q4, b4)]) V' /\ J.KpT H Bs z w5b V') hya).mono ?_
 clear hya
 rintro e w6 ⟨rfl, hq, hkp⟩
 have HQ6 : Hid (Q z [(p0, q0, b0), (p1, q1, b1), (p2, q2, b2), (p3, q3, b3), (p4, q4, b4)] w6) := Zh hq
 have KB6 : Hid (Blok w6 Bs 37 #[.int .i64 s.d.b, .int .i64 s.d.k, .int .i64 s.d.c, .int .i64 s.d.j, .int .i64 s.d.lo, .int .i64 s.d.hi, .int .i64 s.d.dy, .int .i64 s.d.bl, .int .i64 s.p.q, .int .i64 s.p.i, .int .i64 s.p.h, .bool s.p.pair, .int .i64 s.now, .slice ap np cp, .slice al nl cl, .slice ah nh ch]) := Zh (hkp.2.1.trans KBv)
 have KZ6 : Hid (Blok w6 z 157 #[.func (.yield l) #[] #[]]) := Zh (hkp.2.2 _ _ _ KZv)
 have HB6 : Hid (Below H W w6) := Zh ((HB5.out.trans (hbv.mono (Nat.le_trans hHW HB5.out.size))).trans hkp.1)
 have hz6 : z < w6.heap.size := KZ6.out.lt
 clear hq hkp KZv KBv hbv hba hbb HQ5 KB5 KZ5 HB5 hz5
 go_wp2
 go_end0
 exact ⟨⟨_, rfl⟩, z, [(p0, q0, b0), (p1, q1, b1), (p2, q2, b2), (p3, q3, b3), (p4, q4, b4)], by unfold J.parts; rw [HX0.out, HX1.out, HX2.out, HX3.out, HX4.out]; rfl, HQ6.out⟩
end Go.Proofs.YtnbkkjcmblfhpaaGreat
namespace Go.Proofs.YtnbkkjcmblfhpaaGreat
set_option maxHeartbeats 400000
set_option maxRecDepth 100000
open Go.RowKit
namespace J
def unused (now : Int) (x : L.Ls) : Bool := x.t != now
theorem any_yes {f : L.Ls -> Bool} {l : List L.Ls} {j : Nat} {x : L.Ls} (hx : l[j]? = some x) (h : f x = true) : l.any f = true := List.any_eq_true.2 ⟨x, List.mem_of_getElem? hx, h⟩
theorem any_no {f : L.Ls -> Bool} {l : List L.Ls} (h : ∀ q ∈ l, f q = false) : l.any f = false := by
 rw [Bool.eq_false_iff]; intro h1
 obtain ⟨x, hx, h2⟩ := List.any_eq_true.1 h1
 rw [h x hx] at h2; cases h2
theorem any_snoc {f : L.Ls -> Bool} {l : List L.Ls} {j : Nat} {x : L.Ls} (hx : l[j]? = some x) (h : ∀ q ∈ l.take j, f q = false) (hf : f x = false) : ∀ q ∈ l.take (j + 1), f q = false := by
 intro q hq
 rw [List.take_add_one, hx] at hq
 rcases List.mem_append.1 hq with hq | hq
 ·exact h q hq
 ·simp at hq; rw [hq]; exact hf
end J
theorem zq3 (x : L.Ls) (b : Nat) (s : Y.St) (A : Y.A9) (u : Bool) (hu : J.unused s.now x = u) (w : World) (h : Blok w b 37 (Y.cs s A).toArray) :
  Calls Tryz.prog 80 #[L.val x, .pointer (some ⟨b, 0, none⟩)] w fun e w' => e = .returned (.bool u) /\ Below w.heap.size w w' := by
 obtain ⟨w1, hw1, hb, hk⟩ := Zn w 104 #[.int .i64 x.s, .int .i64 x.a, .int .i64 x.b, .int .i64 x.f, .int .i64 x.t]
 have HB1 := Zh hb
 have c4 := Zv hk 4 (.int .i64 x.t)
 have h' := h.below hb h.lt
 have d12 := Zv h' 12 (.int .i64 s.now)
 unfold J.unused at hu
 clear hb hk h'
 unfold L.val
 go_enter Tryz.func80, Tryz.ntmps80
 go_wp2_with fail
 try rw [hw1]
 go_ret
 exact ⟨rfl, HB1.out⟩
theorem zsj (a : Option Addr) (n c : Nat) (l : List L.Ls) (b : Nat) (s : Y.St) (A : Y.A9) (v : Bool) (hv : l.any (J.unused s.now) = v) (w : World) (h : RIn w a n c l) (hb : Blok w b 37 (Y.cs s A).toArray) (hn : n <= 1000) :
  Calls Tryz.prog 150 #[.slice a n c, .func (.func 80) #[] #[.pointer (some ⟨b, 0, none⟩)]] w fun e w' => (∃ r : Int, e = .returned (.int .i64 r) /\ Hid (decide (0 <= r) = v)) /\ Below w.heap.size w w' := by
 have HT := Zh h
 have HV := Zh hv
 have HP := Zh hb
 clear h hv hb
 go_enter Tryz.func150, Tryz.ntmps150
 go_wp2_with fail
 go_loopw [8] (fun i wr => ∃ j : Nat, i = .int .i64 j /\ j <= n /\ Hid (∀ q ∈ l.take j, J.unused s.now q = false) /\ Hid (Below w.heap.size w wr)) (fun i _ => n - (intOf i).toNat)
 case atStart => exact ⟨0, rfl, by omega, Zh (by simp), Zh (Below.refl _ _)⟩
 case round =>
  obtain ⟨j, rfl, hjn, HA, HB⟩ := hrel
  by_cases hlt : j < n
  ·have d1 : decide ((j : Int) < n) = true := by simp; omega
   obtain ⟨b', off, x, rfl, hbl, hx, p0, p1, p2, p3, p4⟩ := (HT.out.below HB.out).at5 hlt
   have HX := Zh hx
   have j0 : (0 : Int) <= j := by omega
   have j1 : (j : Int) < n := by omega
   have HPr := Zh (HP.out.below HB.out HP.out.lt)
   obtain ⟨u, hu⟩ : ∃ u, J.unused s.now x = u := ⟨_, rfl⟩
   have HU := Zh hu
   have c1 := zq3 x b s A u hu wr HPr.out
   unfold L.val at c1
   clear hu hx
   go_wp2_with fail
   refine c1.mono ?_
   rintro e w2 ⟨rfl, hb2⟩
   have HB2 := Zt HB hb2
   clear hb2 c1
   cases u with
   | true =>
    go_wp2
    go_ret
    exact ⟨⟨j, rfl, Zh (by rw [<- HV.out, J.any_yes HX.out HU.out]; simp)⟩, HB2.out⟩
   | false =>
    go_wp2
    go_roundw
    case rel => exact ⟨j + 1, by go_num, by omega, Zh (J.any_snoc HX.out HA.out HU.out), HB2⟩
    case measure => simp [intOf] <;> omega
  ·have d1 : decide ((j : Int) < n) = false := by simp; omega
   have HE : Hid (v = false) := Zh (by
    rw [<- HV.out]
    have h1 := HA.out
    rw [List.take_of_length_le (by rw [HT.out.1]; omega)] at h1
    exact J.any_no h1)
   go_wp2
   go_ret
   exact ⟨⟨-1, rfl, Zh (by rw [HE.out]; decide)⟩, HB.out⟩
theorem zqf (a : Option Addr) (n c : Nat) (l : List L.Ls) (b : Nat) (s : Y.St) (A : Y.A9) (v : Bool) (hv : l.any (J.unused s.now) = v) (w : World) (h : RIn w a n c l) (hb : Blok w b 37 (Y.cs s A).toArray) (hn : n <= 1000) :
  Calls Tryz.prog 81 #[.slice a n c, .func (.func 80) #[] #[.pointer (some ⟨b, 0, none⟩)]] w fun e w' => e = .returned (.bool v) /\ Below w.heap.size w w' := by
 have c1 := zsj a n c l b s A v hv w h hb hn
 clear h hb hv
 go_enter Tryz.func81, Tryz.ntmps81
 go_wp2_with fail
 refine c1.mono ?_
 rintro e w2 ⟨⟨r, rfl, hr⟩, hb2⟩
 go_wp2
 go_ret
 exact ⟨by rw [hr.out]; rfl, hb2⟩
end Go.Proofs.YtnbkkjcmblfhpaaGreat
namespace Go.Proofs.YtnbkkjcmblfhpaaGreat
open Go.RowKit
theorem zpx {l n : Nat} {P : Program} {o : Oper} {a : Act} {next : Act -> World -> Prop} {Q : Exit -> Act -> World -> Prop} {r : Result Go.Next} (h : o.upon P a next Q r) : o.uponIn (Fence.wide.inRound l) n P a next Q r := by
 unfold Oper.upon at h
 split at h
 ·exact h
 ·exact h
 ·exact h
 ·exact ⟨fun e => (by cases e), CallsIn.inRound l (callsIn_wide.2 h)⟩
 ·refine ⟨fun e => (by cases e), fun c cs _ => ?_⟩
  obtain ⟨v, w', h1, h2⟩ := h c cs
  exact ⟨v, w', h1, stepsIn_wide.2 h2⟩
 ·exact h
 ·exact h.elim
theorem Oper.upon_mono' {P : Program} {o : Oper} {a : Act} {next next' : Act -> World -> Prop} {Q : Exit -> Act -> World -> Prop} {r : Result Go.Next} (hn : ∀ a w, next a w -> next' a w) (h : o.upon P a next Q r) : o.upon P a next' Q r := by
 unfold Oper.upon at h ⊢
 split at h
 ·exact hn _ _ h
 ·exact hn _ _ h
 ·exact hn _ _ h
 ·refine h.mono fun e w' he => ?_
  cases e with
  | returned v => exact hn _ _ he
  | panicked c => exact he
  | outgrown => exact he
 ·exact h.mono fun v w' hv => hn _ _ hv
 ·exact h
 ·exact h.elim
theorem zr1 {l n : Nat} {P : Program} {ops : Array Oper} {Q : Exit -> Act -> World -> Prop} {i : Nat} {K K' : Act -> World -> Prop} {a : Act} {w : World} (hl : ¬ LetsOut Q) (hd : ∀ o ∈ ops.toList, ∀ c, o.op ≠ .defer c) (hK : ∀ a w, K a w -> K' a w) (h : wpOp P ops Q i K a w) : wpOpIn (Fence.wide.inRound l) n P ops Q i K' a w := by
 have h := wpOp_mono hK h
 unfold wpOp at h
 unfold wpOpIn
 split
 ·next hi => rw [hi] at h; exact h
 ·next o hi =>
  rw [hi] at h
  simp only at h
  split
  ·next hw =>
   rw [if_pos hw] at h
   refine ⟨fun _ _ => trivial, ?_⟩
   have ho : o ∈ ops.toList := by
    obtain ⟨hlt, e⟩ := Array.getElem?_eq_some_iff.1 hi
    rw [<- e]; simp
   rw [Oper.semAt_plain _ _ _ (hd o ho)]
   rcases h with h | ⟨_, h⟩
   ·exact zpx h
   ·exact absurd h hl
  ·next hw =>
   rw [if_neg hw] at h
   exact ⟨fun _ _ => trivial, h⟩
theorem zo8 {l n : Nat} {P : Program} {md : Region.Mode} {ops : Array Oper} {Q : Exit -> Act -> World -> Prop} (hl : ¬ LetsOut Q) (hd : ∀ o ∈ ops.toList, ∀ c, o.op ≠ .defer c) : ∀ (fuel : Nat) (listed : Array Bool) (a : Act) (w : World), wpAny P md ops Q fuel listed a w -> wpAnyIn (Fence.wide.inRound l) n P md ops Q fuel listed a w
 | 0, _, _, _, h => h
 | fuel + 1, _, _, _, h => ⟨h.1, fun i hi => zr1 hl hd (fun a' w' h' => zo8 hl hd fuel _ a' w' h') (h.2 i hi)⟩
theorem zor {l n : Nat} {P : Program} {ops : Array Oper} {Q : Exit -> Act -> World -> Prop} (hl : ¬ LetsOut Q) : ∀ (L : List Oper), (∀ o ∈ L, ∀ c, o.op ≠ .defer c) -> ∀ (a : Act) (w : World), wpList P ops Q L a w -> wpListIn (Fence.wide.inRound l) n P ops Q L a w
 | [], _, _, _, h => h
 | o :: rest, hd, a, w, h => by
  have ih := zor (l := l) (n := n) (P := P) (ops := ops) hl rest (fun o ho => hd o (by simp [ho]))
  simp only [wpList] at h
  simp only [wpListIn]
  split
  ·next hw =>
   rw [if_pos hw] at h
   refine ⟨fun _ _ => trivial, ?_⟩
   rw [Oper.semAt_plain _ _ _ (hd o (by simp))]
   rcases h with h | ⟨_, h⟩
   ·exact zpx (Oper.upon_mono' ih h)
   ·exact absurd h hl
  ·next hw =>
   rw [if_neg hw] at h
   exact ⟨fun _ _ => trivial, ih _ _ h⟩
theorem zod {l n : Nat} {P : Program} {ops : Array Oper} {Q : Exit -> Act -> World -> Prop} {S : World -> Prop} {id : Nat} {a : Act} {w : World} (hm : P.follows .mixedOrders = true) (hl : ¬ LetsOut Q) (hd : (ops.toList.all fun o => match o.op with | .defer _ => false | _ => true) = true)
  (h : wpAnyH P .any ops Q S ops.size (Array.replicate ops.size false) a (World.drew w)) : (Code.region id ops true).wpIn (Fence.wide.inRound l) n P Q a w := by
 refine wpIn_region_any hm (zo8 hl (fun o ho c e => ?_) _ _ _ _ (wpAny_of_held _ _ _ _ h))
 have := List.all_eq_true.1 hd o ho
 rw [e] at this; cases this
theorem znl {l n : Nat} {P : Program} {L : List Oper} {Q : Exit -> Act -> World -> Prop} {id : Nat} {a : Act} {w : World} (hl : ¬ LetsOut Q) (hd : (L.all fun o => match o.op with | .defer _ => false | _ => true) = true)
  (h : wpList P L.toArray Q L a w) : (Code.region id L.toArray false).wpIn (Fence.wide.inRound l) n P Q a w := by
 refine wpIn_region_lit (zor hl L (fun o ho c e => ?_) _ _ h)
 have := List.all_eq_true.1 hd o ho
 rw [e] at this; cases this
end Go.Proofs.YtnbkkjcmblfhpaaGreat
namespace Go.Proofs.YtnbkkjcmblfhpaaGreat
open Go.RowKit
namespace J
open Y
def bs (pre : List Part) : List Int := pre.flatMap fun x => one x.2.2
theorem bs_snoc (pre : List Part) (x : Part) : bs (pre ++ [x]) = bs pre ++ (M.put (x.2.2.length : Int) ++ x.2.2) := by simp [bs, one]
def InvP (w0 : World) (M z : Nat) (pre : List Part) (W : World) : Prop :=
 (∃ v, Boxed W M 51 v /\ W.ownsRow (M + 2) 5 1 v (bs pre).length ((bs pre).map (Value.int .u8)) /\ v.ownBlock ≠ some z) /\ (M + 2 <= z /\ (bs pre).length <= 600 * pre.length) /\ Below M w0 W
theorem invp_own (w0 : World) (M B z : Nat) (hM : M <= w0.heap.size) (hB : M <= B) : OwnFrom B (InvP w0 M z) :=
 OwnFrom.and (Own.from (holdsRow_own (M + 2) M 51 5 1 (fun pre : List Part => (bs pre).length) (fun pre => (bs pre).map (Value.int .u8)) (fun _ v => v.ownBlock ≠ some z)) _)
  (OwnFrom.and (ownFrom_pure B (fun pre : List Part => M + 2 <= z /\ (bs pre).length <= 600 * pre.length)) (ownFrom_below hM hB))
def Rnd (M z : Nat) (x : Part) (W : World) : Prop :=
 zfv .u8 W x.1 x.2.1 x.2.2 /\ (x.1 = none -> x.2.2.length = 0 /\ x.2.1 = 0) /\ x.2.2.length <= 400 /\ z < W.heap.size /\ ∀ q, x.1 = some q -> M + 2 <= q.block /\ ∀ v, Boxed W M 51 v -> v.ownBlock ≠ some q.block
theorem row_nc {k : IntKind} {X Y : World} {a : Option Addr} {c : Nat} {L : List Int} {row : Option Nat} (h : zfv k X a c L) (hg : X.grownBy Y row) (hr : ∀ r, row = some r -> ∃ o : Obj, X.heap[r]? = some o /\ o.isCells = false) : zfv k Y a c L := by
 refine ⟨h.1, h.2.1, ?_⟩
 rcases h.2.2 with h0 | ⟨b, off, rfl, hlt, hc⟩
 ·exact .inl h0
 ·by_cases hL : L = []
  ·exact .inl hL
  ·refine .inr ⟨b, off, rfl, Nat.lt_of_lt_of_le hlt hg.size, fun i hi => ?_⟩
   have hne : some b ≠ row := fun e => by
    obtain ⟨o, ho, hno⟩ := hr b e.symm
    have h1 := hc 0 (by cases L with | nil => exact absurd rfl hL | cons => simp)
    unfold World.cell? at h1
    rw [show (⟨b, off + 0, none⟩ : Addr).block = b from rfl, ho] at h1
    cases o with
    | cells => cases hno
    | map => exact absurd (show (none : Option Value) = some _ from h1) (by simp)
    | _ => exact absurd (show (none : Option Value) = some _ from h1) (by simp)
   rw [<- hc i hi]
   unfold World.cell?
   rw [hg.block b hlt hne]
theorem rnd_own {M B z : Nat} {x : Part} {X Y : World} {row : Option Nat} (h : Rnd M z x X) (hM : M < X.heap.size) (hBox : ∃ v, Boxed X M 51 v) (hg : X.grownBy Y row) (hr : ∀ r, row = some r -> B <= r /\ ∃ o : Obj, X.heap[r]? = some o /\ o.isCells = false) : Rnd M z x Y := by
 obtain ⟨h1, h2, h3, h4, h5⟩ := h
 refine ⟨row_nc h1 hg (fun r e => (hr r e).2), h2, h3, Nat.lt_of_lt_of_le h4 hg.size, fun q hq => ⟨(h5 q hq).1, fun v hv => ?_⟩⟩
 obtain ⟨u, hu⟩ := hBox
 have hne : some M ≠ row := fun e => by
  obtain ⟨_, o, ho, hno⟩ := hr M e.symm
  rw [show X.heap[M]? = _ from hu] at ho; cases ho; cases hno
 have e1 : Y.heap[M]? = X.heap[M]? := hg.block M hM hne
 exact (h5 q hq).2 v (e1.symm.trans hv)
theorem invp_below {w0 V0 W : World} {M z : Nat} {pre : List Part} (h : InvP w0 M z pre V0) (hV : Below V0.heap.size V0 W) : InvP w0 M z pre W := by
 obtain ⟨⟨v, h1, h2, h3⟩, h4, h5⟩ := h
 exact ⟨⟨v, (hV.block M h1.lt).trans h1, zab h2 hV, h3⟩, h4, h5.trans (hV.mono (Nat.le_of_lt h1.lt))⟩
theorem rnd_of {w0 V0 W : World} {M z : Nat} {pre : List Part} {x : Part} (h : InvP w0 M z pre V0) (hV : Below V0.heap.size V0 W) (hG : Fresh (M + 2) z x V0 W) : Rnd M z x W := by
 obtain ⟨⟨v, h1, h2, h3⟩, h4, h5⟩ := h
 refine ⟨hG.1, hG.2.1, hG.2.2.2.2.2, Nat.lt_of_lt_of_le hG.2.2.2.2.1 hV.size, fun q hq => ⟨?_, fun u hu => ?_⟩⟩
 ·have := hG.2.2.1 q hq; have := hG.2.2.2; omega
 ·have e1 : W.heap[M]? = _ := (hV.block M h1.lt).trans h1
  have e2 : W.heap[M]? = _ := hu
  rw [e1] at e2
  simp only [Option.some.injEq, Obj.cells.injEq, and_true] at e2
  have e3 : v = u := by simpa using e2
  subst e3
  intro e
  have := (h2.lt _ e).2
  have := hG.2.2.1 q hq
  omega
theorem row_away {k : IntKind} {w w' : World} {a : Option Addr} {cap : Nat} {L : List Int} {row : Option Nat} (h : zfv k w a cap L) (hg : w.grownBy w' row) (hne : ∀ x, a = some x -> some x.block ≠ row) : zfv k w' a cap L := by
 refine ⟨h.1, h.2.1, ?_⟩
 rcases h.2.2 with h0 | ⟨b, off, rfl, hlt, hc⟩
 ·exact .inl h0
 ·refine .inr ⟨b, off, rfl, Nat.lt_of_lt_of_le hlt hg.size, fun i hi => ?_⟩
  rw [<- hc i hi]
  unfold World.cell?
  rw [hg.block b hlt (hne _ rfl)]
theorem app_step {w0 X w1 : World} {M z : Nat} {c L : List Int} {v v' : Value} (hv : Boxed X M 51 v) (hrow : X.ownsRow (M + 2) 5 1 v c.length (c.map (Value.int .u8))) (hvz : v.ownBlock ≠ some z) (hz : M + 2 <= z) (hzl : z < X.heap.size) (hB : Below M w0 X)
  (hown' : w1.ownsRow (M + 2) 5 1 v' (c.length + L.length) (c.map (Value.int .u8) ++ L.map (Value.int .u8))) (hgrow : X.grownBy w1 v.ownBlock) (hat : v'.ownBlock = v.ownBlock \/ v'.ownBlock = some X.heap.size) :
  KeepsOthers X (w1.setCell ⟨M, 0, none⟩ v') /\ KpT M (M + 1) z X (w1.setCell ⟨M, 0, none⟩ v') /\
   (Boxed (w1.setCell ⟨M, 0, none⟩ v') M 51 v' /\ (w1.setCell ⟨M, 0, none⟩ v').ownsRow (M + 2) 5 1 v' (c ++ L).length ((c ++ L).map (Value.int .u8)) /\ v'.ownBlock ≠ some z) /\ Below M w0 (w1.setCell ⟨M, 0, none⟩ v') := by
 have x0 : Boxed w1 M 51 v := hv.kept hgrow (fun e => by have := (hrow.lt _ e.symm).1; omega)
 have hM := hv.lt
 have g2 := grownBy_setCell' w1 M v'
 have hbel : Below M X (w1.setCell ⟨M, 0, none⟩ v') := ((Below.refl M X).grown hgrow (by omega) (fun k e => by have := (hrow.lt _ e).1; omega)).setCell (p := ⟨M, 0, none⟩) (Nat.le_refl _) v'
 have same : ∀ k : Nat, k < X.heap.size -> some k ≠ v.ownBlock -> k ≠ M -> (w1.setCell ⟨M, 0, none⟩ v').heap[k]? = X.heap[k]? := fun k hk h1 h2 => (g2.block k (Nat.lt_of_lt_of_le hk hgrow.size) (fun e => h2 (Option.some.inj e))).trans (hgrow.block k hk h1)
 refine ⟨?_, ⟨hbel, same _ (by omega) (fun e => by have := (hrow.lt _ e.symm).1; omega) (by omega), fun cs t f hc => (same z hzl (fun e => hvz e.symm) (by omega)).trans hc⟩, ⟨x0.set v', ?_, ?_⟩, hB.trans hbel⟩
 ·refine (KeepsOthers.of_grownBy hgrow fun j o ej hj => ?_).trans (KeepsOthers.setCell _ _ _)
  rcases hrow.2 with ⟨rfl, _⟩ | ⟨g, cap, cur, rfl, _, hgb, _⟩
  ·simp [Value.ownBlock] at ej
  ·obtain rfl : g = j := by simpa [Value.ownBlock] using ej
   rw [hgb] at hj; cases hj; rfl
 ·have r1 := hown'.kept g2 (.inr (by intro e; have := (hown'.lt _ e).1; omega))
  simpa using r1
 ·rcases hat with e | e
  ·rw [e]; exact hvz
  ·rw [e]; intro h; cases h; omega
theorem part_step {X w1 : World} {M : Nat} {a : Option Addr} {k : Nat} {P : List Int} {v v' : Value} (h : zfv .u8 X a k P) (hq : ∀ q, a = some q -> M + 2 <= q.block /\ v.ownBlock ≠ some q.block) (hgrow : X.grownBy w1 v.ownBlock) : zfv .u8 (w1.setCell ⟨M, 0, none⟩ v') a k P :=
 row_away (row_away h hgrow (fun q e he => (hq q e).2 he.symm)) (grownBy_setCell' w1 M v') (fun q e he => by have := (hq q e).1; cases he; omega)
end J
theorem zn0 {P : Program} {o : Oper} {a : Act} {K : Act -> World -> Prop} {Q : Exit -> Act -> World -> Prop} {w : World} (s x : Operand) (t : TypeId)
  (hop : o.op = .call { callee := .builtin .append, args := #[s, x], argTypes := #[t, t] })
  (base : Nat) (e : TypeId) (i : TypeInfo) (z : Value) (bytes : Nat) (ht : P.underlying t = some (.slice e)) (hi : P.info? e = some i) (hz : i.zero = some z)
  (hsize : i.size = 1) (hby : i.bytes = bytes) (hzs : z.cells.size = 1)
  (v : Value) (n : Nat) (xs : List Value) (hs : a.eval s = v) (hown : w.ownsRow base e 1 v n xs)
  (k : IntKind) (ad : Option Addr) (m c : Nat) (L : List Int) (hx : a.eval x = .slice ad m c) (hr : zfv k w ad c L) (hm : L.length = m) (hn : ad = none -> m = 0 /\ c = 0)
  (h63 : n + m <= maxLen) (hbytes : (n + m) * bytes <= 140737488355328) (hbase : base <= w.heap.size)
  (h : ∀ v' w', w'.ownsRow base e 1 v' (n + m) (xs ++ L.map (Value.int k)) -> w.grownBy w' v.ownBlock -> (v'.ownBlock = v.ownBlock \/ v'.ownBlock = some w.heap.size) -> K (a.put o.dst v') w') : o.wp P a w K Q := by
 cases ad with
 | some ad =>
  have hnews : ∀ j u, (L.map (Value.int k))[j]? = some u -> w.cell? (ad.add j) = some u := fun j u hj => by
   rcases hr.2.2 with rfl | ⟨b, off, he, _, hc⟩
   ·simp at hj
   ·cases he
    obtain ⟨hj', hv⟩ := List.getElem?_eq_some_iff.1 hj
    rw [WideShapes.add_plain, hc j (by simpa using hj')]
    rw [<- hv]
    simp at hj'
    simp [hj']
  obtain ⟨v', w', hr', h2, h3, h4, h5⟩ := run_append_own_at (P := P) w base t o.type e i z 1 bytes ht hi hz hsize hby hzs (by decide) v n xs hown ad m c (L.map (Value.int k)) (by simp [hm]) hnews (zoh k L) h63 hbytes hbase
  unfold Oper.wp execOp
  simp only [hop, resolve, invoke, builtin, Sem.run_bind, Sem.run_pure, Result.andThen_ok, List.map_toArray, List.map_cons, List.map_nil, hs, hx, hr']
  exact h v' w' h2 h3 h5
 | none =>
  obtain ⟨rfl, rfl⟩ := hn rfl
  obtain rfl : L = [] := List.eq_nil_of_length_eq_zero hm
  have hrun := run_append_owned_none (P := P) (w := w) base t o.type e i 1 ht hi v n xs hown
  unfold Oper.wp
  simp [execOp, hop, resolve, invoke, builtin, hs, hx, hrun, Result.andThen]
  exact h v w (by simpa using hown) ⟨rfl, rfl, rfl, Nat.le_refl _, fun _ _ _ => rfl⟩ (.inl rfl)
theorem zn1 {P : Program} {ops : Array Oper} {Q : Exit -> Act -> World -> Prop} {j : Nat} {o : Oper} {K : Act -> World -> Prop} {a : Act} {w : World} (ho : ops[j]? = some o) (hw : Region.wanted o (yielded ops a.tmps) = true) (s x : Operand) (t : TypeId)
  (hop : o.op = .call { callee := .builtin .append, args := #[s, x], argTypes := #[t, t] })
  (base : Nat) (e : TypeId) (i : TypeInfo) (z : Value) (bytes : Nat) (ht : P.underlying t = some (.slice e)) (hi : P.info? e = some i) (hz : i.zero = some z)
  (hsize : i.size = 1) (hby : i.bytes = bytes) (hzs : z.cells.size = 1)
  (v : Value) (n : Nat) (xs : List Value) (hs : a.eval s = v) (hown : w.ownsRow base e 1 v n xs)
  (k : IntKind) (ad : Option Addr) (m c : Nat) (L : List Int) (hx : a.eval x = .slice ad m c) (hr : zfv k w ad c L) (hm : L.length = m) (hn : ad = none -> m = 0 /\ c = 0)
  (h63 : n + m <= maxLen) (hbytes : (n + m) * bytes <= 140737488355328) (hbase : base <= w.heap.size)
  (h : ∀ v' w', w'.ownsRow base e 1 v' (n + m) (xs ++ L.map (Value.int k)) -> w.grownBy w' v.ownBlock -> (v'.ownBlock = v.ownBlock \/ v'.ownBlock = some w.heap.size) -> K (a.put o.dst v') w') : wpOp P ops Q j K a w := by
 refine wpOp_step ho fun K' hK' => ?_
 rw [if_pos hw]
 exact zn0 s x t hop base e i z bytes ht hi hz hsize hby hzs v n xs hs hown k ad m c L hx hr hm hn h63 hbytes hbase (fun v' w' h1 h2 h3 => hK' _ _ (h v' w' h1 h2 h3))
theorem znp {P : Program} {ops : Array Oper} {rest : List Oper} {o : Oper} {a : Act} {Q : Exit -> Act -> World -> Prop} {w : World} (hgd : o.guard = none) (s x : Operand) (t : TypeId)
  (hop : o.op = .call { callee := .builtin .append, args := #[s, x], argTypes := #[t, t] })
  (base : Nat) (e : TypeId) (i : TypeInfo) (z : Value) (bytes : Nat) (ht : P.underlying t = some (.slice e)) (hi : P.info? e = some i) (hz : i.zero = some z)
  (hsize : i.size = 1) (hby : i.bytes = bytes) (hzs : z.cells.size = 1)
  (v : Value) (n : Nat) (xs : List Value) (hs : a.eval s = v) (hown : w.ownsRow base e 1 v n xs)
  (k : IntKind) (ad : Option Addr) (m c : Nat) (L : List Int) (hx : a.eval x = .slice ad m c) (hr : zfv k w ad c L) (hm : L.length = m) (hn : ad = none -> m = 0 /\ c = 0)
  (h63 : n + m <= maxLen) (hbytes : (n + m) * bytes <= 140737488355328) (hbase : base <= w.heap.size)
  (h : ∀ v' w', w'.ownsRow base e 1 v' (n + m) (xs ++ L.map (Value.int k)) -> w.grownBy w' v.ownBlock -> (v'.ownBlock = v.ownBlock \/ v'.ownBlock = some w.heap.size) -> wpList P ops Q rest (a.put o.dst v') w') : wpList P ops Q (o :: rest) a w :=
 wpList_plain hgd fun _ hK => zn0 s x t hop base e i z bytes ht hi hz hsize hby hzs v n xs hs hown k ad m c L hx hr hm hn h63 hbytes hbase (fun v' w' h1 h2 h3 => hK _ _ (h v' w' h1 h2 h3))
theorem zr2 (n H Bs : Nat) (s : Y.St) (A : Y.A9) (hk : J.ok s) (W0 w : World) (hB : Blok w Bs 37 (Y.cs s A).toArray) (hH : W0.heap.size <= H) (hHw : H <= w.heap.size) (hW0 : Below H W0 w) (hi : Y.SIn W0 A s) :
  zso Fence.wide n Tryz.prog 151 #[.pointer (some ⟨Bs, 0, none⟩)] J.encP (J.Fresh w.heap.size) (J.KpT H Bs) (fun xs => xs.map (fun x => x.2.2) = J.parts s) 5 w := fun l Q W hb hab hY h0 =>
 callsIn_wide.2 (zq2 l Bs H s A hk Q W W0 hab (fun z pre x V0 V h1 h2 h3 h4 => zog (hY z pre x V0 V h1 h2 ⟨h3.1, h3.2.1, h3.2.2.1, Nat.le_trans hb.size h3.2.2.2.1, h3.2.2.2.2⟩ h4)) (hB.below hb hB.lt) hH (Nat.le_trans hHw hb.size) (hW0.trans (hb.mono hHw)) hi h0)
theorem zth (n : Nat) (s : Y.St) (A : Y.A9) (w : World) :
  CallsIn Fence.wide n Tryz.prog 82 #[Y.val s A] w fun e w' => e = .returned (.func (.func 151) #[] #[.pointer (some ⟨w.heap.size, 0, none⟩)]) /\ w' = w.alloc (.cells (Y.cs s A).toArray 37) := by
 have hf20 : Fence.wide.fn 82 := trivial
 unfold Y.val Y.cs
 refine callsIn_of_wp Tryz.func82 rfl hf20 ?_ rfl
 simp only [Tryz.ntmps82, List.size_toArray, List.length_cons, List.length_nil, Nat.reduceAdd, Nat.reduceSub, Array.replicate_succ, Array.replicate_zero, List.push_toArray, List.append_toArray, List.nil_append, List.cons_append]
 gi_wp2
 go_ret
 exact ⟨rfl, rfl⟩
end Go.Proofs.YtnbkkjcmblfhpaaGreat
