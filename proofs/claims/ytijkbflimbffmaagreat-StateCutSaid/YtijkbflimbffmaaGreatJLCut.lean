import Derived.Test.YtijkbflimbffmaaGreatJAwake
import Derived.Test.YtijkbflimbffmaaGreatP43
import Derived.Test.YtijkbflimbffmaaGreatP42
namespace Go.Proofs.YtijkbflimbffmaaGreat
set_option maxHeartbeats 4000000
set_option maxRecDepth 100000
open Go.RowKit
theorem StateCut_in (s : Y.St) (ap : Option Addr) (np cp : Nat) (al : Option Addr) (nl cl : Nat) (ah : Option Addr) (nh ch : Nat) (k : Int) (a : Option Addr) (n c : Nat) (m : List Int) (w : World) (h : Y.SIn w ⟨ap, np, cp, al, nl, cl, ah, nh, ch⟩ s) (sm : O.Sm s.ps) (hb : s.d.b <= 9223372036854775807) (hc : s.d.c <= 9223372036854775807) (hml : m.length = n) (hm : zfv .u8 w a c m) (hmn : a = none -> n = 0 /\ c = 0) :
  Calls Tryz.prog 9 #[.agg #[.int .i64 s.d.b, .int .i64 s.d.k, .int .i64 s.d.c, .int .i64 s.d.j, .int .i64 s.d.lo, .int .i64 s.d.hi, .int .i64 s.d.dy, .int .i64 s.d.bl, .int .i64 s.p.q, .int .i64 s.p.i, .int .i64 s.p.h, .bool s.p.pair, .int .i64 s.now, .slice ap np cp, .slice al nl cl, .slice ah nh ch], .int .i64 k, .slice a n c] w fun e w' => e = .returned (.bool true) /\ Below w.heap.size w w' := by
 have HB0 := Zh (Below.refl w.heap.size w)
 have HI0 := Zh (h)
 have HM0 := Zh (hm)
 have HSM := Zh sm
 have HML := Zh hml
 have HMN := Zh hmn
 clear h sm hml hmn hm
 obtain ⟨w1, hw1, hb, hk⟩ := Zn w 32 #[.int .i64 s.d.b, .int .i64 s.d.k, .int .i64 s.d.c, .int .i64 s.d.j, .int .i64 s.d.lo, .int .i64 s.d.hi, .int .i64 s.d.dy, .int .i64 s.d.bl, .int .i64 s.p.q, .int .i64 s.p.i, .int .i64 s.p.h, .bool s.p.pair, .int .i64 s.now, .slice ap np cp, .slice al nl cl, .slice ah nh ch]
 replace HI0 := Zh (HI0.out.below hb)
 replace HM0 := Zh (HM0.out.below hb)
 replace HB0 := Zt HB0 hb
 have KS1 := Zh hk
 clear hb hk
 have c0 := Y.cs16 KS1.out
 obtain ⟨fw, hfw⟩ : ∃ b, (decide (nl <= 40) && decide (nh <= 40) && decide (np <= 6)) = b := ⟨_, rfl⟩
 have HFW := Zh hfw
 clear hfw
 go_enter Tryz.func9, Tryz.ntmps9
 go_wp2_with fail
 try rw [hw1]
 refine (zna w1).mono ?_
 clear c0
 rintro e w2 ⟨rfl, hb⟩
 replace HI0 := Zh (HI0.out.below hb)
 replace HM0 := Zh (HM0.out.below hb)
 replace KS1 := Zk KS1 hb
 replace HB0 := Zt HB0 hb
 clear hb
 have c0 := Y.cs16 KS1.out
 clear hw1
 go_wp2_with fail
 refine (zcx s ap np cp al nl cl ah nh ch fw HFW.out w2).mono ?_
 clear c0
 rintro e w3 ⟨rfl, hb⟩
 replace HI0 := Zh (HI0.out.below hb)
 replace HM0 := Zh (HM0.out.below hb)
 replace KS1 := Zk KS1 hb
 replace HB0 := Zt HB0 hb
 clear hb
 have c0 := Y.cs16 KS1.out
 cases fw with
 | false =>
  go_wp2
  go_ret
  exact ⟨rfl, HB0.out⟩
 | true =>
  have hfe := HFW.out
  simp only [Bool.and_eq_true, decide_eq_true_eq] at hfe
  obtain ⟨⟨hnl, hnh⟩, hnp⟩ := hfe
  have HFT : Hid (Y.Fits ⟨ap, np, cp, al, nl, cl, ah, nh, ch⟩ s) := Zh ⟨by show np <= 600; omega, by show nl <= 600; omega, by show nh <= 600; omega, HSM.out, hb, hc⟩
  by_cases hk0 : 100 < n
  ·have d0 : decide (100 < (n : Int)) = true := by simp; omega
   go_wp2
   go_ret
   exact ⟨rfl, HB0.out⟩
  have d0 : decide (100 < (n : Int)) = false := by simp; omega
  have hn6 : n <= 100 := by omega
  clear hk0
  obtain ⟨bs, hbs⟩ : ∃ b, (J.put s).getD [] = b := ⟨_, rfl⟩
  have HBS := Zh hbs
  have hbl : bs.length <= 600 := by rw [<- hbs]; exact J.put_bd
  clear hbs
  obtain ⟨pv, hpv⟩ : ∃ b, (J.put s).isSome = b := ⟨_, rfl⟩
  have HPV := Zh hpv
  clear hpv
  go_wp2_with fail
  refine (zno s ⟨ap, np, cp, al, nl, cl, ah, nh, ch⟩ bs pv HBS.out HPV.out w3 HI0.out HFT.out).mono ?_
  clear c0
  rintro e w4 ⟨pa, pc, rfl, hrow, hb, hz⟩
  replace HI0 := Zh (HI0.out.below hb)
  replace HM0 := Zh (HM0.out.below hb)
  replace KS1 := Zk KS1 hb
  replace HB0 := Zt HB0 hb
  clear hb
  have HW4 := hrow
  have c0 := Y.cs16 KS1.out
  as_aux_lemma =>
  have HNZ := Zh hz
  clear hz hrow
  clear c0
  cases pv with
  | false =>
   go_wp2
   go_ret
   exact ⟨rfl, HB0.out⟩
  | true =>
   have hps : J.put s = some bs := by
    have h1 := HPV.out
    have h2 := HBS.out
    cases hq : J.put s with
    | none => rw [hq] at h1; cases h1
    | some z => rw [hq] at h2; exact congrArg some h2
   have HPS := Zh hps
   clear hps
   obtain ⟨i0, hi, hz0, hz1, hz2⟩ := info_parts zrf
   have HWF : Hid (∀ x ∈ bs ++ m, (Lit.int .u8 x).wf = true) := Zh (fun x hx => (List.mem_append.1 hx).elim (HW4.out.2.1 x) (HM0.out.2.1 x))
   go_wp2_with (first
    | (at_builtin; refine znf _ rfl _ _ 36 rfl w4.heap.size 5 i0 (.int .u8 0) 1 Tryz.underlying36 hi hz0 hz1 hz2 rfl _ 0 [] rfl (World.ownsRow_nil _ _ _ _) .u8 pa bs.length pc bs rfl HW4.out rfl HNZ.out (by unfold maxLen; omega) (by omega) (Nat.le_refl _) ?_; intro va wa owna ga; have OA : Hid (wa.ownsRow w4.heap.size 5 1 va bs.length (bs.map (Value.int .u8))) := Zh (by simpa using owna); have WA : Hid (Below w4.heap.size w4 wa) := Zh ((Below.refl _ _).grown ga (Nat.le_refl _) (fun k ek => by cases ek)); clear owna ga)
    | (at_builtin; refine znf _ rfl _ _ 36 rfl w4.heap.size 5 i0 (.int .u8 0) 1 Tryz.underlying36 hi hz0 hz1 hz2 rfl _ bs.length (bs.map (Value.int .u8)) rfl OA.out .u8 a n c m rfl (HM0.out.below WA.out) HML.out HMN.out (by unfold maxLen; omega) (by omega) WA.out.size ?_; intro vb w5 ownb gb; obtain ⟨qa, qc, rfl, r2, rz⟩ := J.own_row3 (L := bs ++ m) (by simpa using ownb) HWF.out; have R2 := Zh r2; have RZ := Zh rz; have W2 : Hid (Below w4.heap.size w4 w5) := Zh (znq OA.out WA.out.size WA.out gb); clear ownb gb r2 rz))
   have hb := W2.out
   replace HI0 := Zh (HI0.out.below hb)
   replace HM0 := Zh (HM0.out.below hb)
   replace KS1 := Zk KS1 hb
   replace HW4 := Zh (HW4.out.below hb)
   replace HB0 := Zt HB0 hb
   clear hb hi hz0 hz1 hz2 OA WA W2 HWF
   obtain ⟨tx, htx⟩ : ∃ t, (J.read (bs ++ m)).getD J.s00 = t := ⟨_, rfl⟩
   obtain ⟨v, hv⟩ : ∃ v, ((n : Int) == 0) = v := ⟨_, rfl⟩
   have HTX := Zh htx
   have hrv : (J.read (bs ++ m)).isSome = v := by
    rw [<- hv]
    by_cases hn0 : n = 0
    ·obtain rfl : m = [] := List.eq_nil_of_length_eq_zero (by rw [HML.out]; exact hn0)
     rw [List.append_nil, J.read_some.2 HPS.out, hn0]; rfl
    ·rw [J.read_more HPS.out (fun e => hn0 (by rw [<- HML.out, e]; rfl))]
     simp [hn0]
   have HRV := Zh hrv
   have v1 : (v != v) = false := by simp
   have v2 : (v == v) = true := by simp
   have hlen : Hid ((bs ++ m).length = bs.length + n) := Zh (by rw [List.length_append, HML.out])
   clear htx hrv
   go_wp2_with fail
   refine (znb tx v qa (bs.length + n) qc (bs ++ m) HTX.out HRV.out w5 (by omega) hlen.out R2.out RZ.out).mono ?_
   rintro e w6 ⟨apx, npx, cpx, alx, nlx, clx, ahx, nhx, chx, rfl, hG, hb⟩
   replace HI0 := Zh (HI0.out.below hb)
   replace HM0 := Zh (HM0.out.below hb)
   replace KS1 := Zk KS1 hb
   replace HW4 := Zh (HW4.out.below hb)
   replace HB0 := Zt HB0 hb
   clear hb
   have HGx6 := hG
   as_aux_lemma =>
   clear hG R2 RZ
   obtain ⟨w7, hw7, hb, hk⟩ := Zn w6 32 #[.int .i64 tx.d.b, .int .i64 tx.d.k, .int .i64 tx.d.c, .int .i64 tx.d.j, .int .i64 tx.d.lo, .int .i64 tx.d.hi, .int .i64 tx.d.dy, .int .i64 tx.d.bl, .int .i64 tx.p.q, .int .i64 tx.p.i, .int .i64 tx.p.h, .bool tx.p.pair, .int .i64 tx.now, .slice apx npx cpx, .slice alx nlx clx, .slice ahx nhx chx]
   replace HI0 := Zh (HI0.out.below hb)
   replace HM0 := Zh (HM0.out.below hb)
   replace KS1 := Zk KS1 hb
   replace HW4 := Zh (HW4.out.below hb)
   replace HGx6 := Zh (HGx6.out.below hb)
   replace HB0 := Zt HB0 hb
   have KX7 := Zh hk
   clear hb hk
   obtain ⟨wz7, hz7⟩ : ∃ W, w6.alloc (.cells #[.int .i64 0, .int .i64 0, .int .i64 0, .int .i64 0, .int .i64 0, .int .i64 0, .int .i64 0, .int .i64 0, .int .i64 0, .int .i64 0, .int .i64 0, .bool false, .int .i64 0, .slice none 0 0, .slice none 0 0, .slice none 0 0] 32) = W := ⟨_, rfl⟩
   have HZK7 : Hid (Blok wz7 w6.heap.size 32 #[.int .i64 0, .int .i64 0, .int .i64 0, .int .i64 0, .int .i64 0, .int .i64 0, .int .i64 0, .int .i64 0, .int .i64 0, .int .i64 0, .int .i64 0, .bool false, .int .i64 0, .slice none 0 0, .slice none 0 0, .slice none 0 0]) := Zh (by rw [<- hz7]; exact Blok.new w6 _ _)
   have HPZ7 : Hid (wz7.setRow w6.heap.size #[.int .i64 tx.d.b, .int .i64 tx.d.k, .int .i64 tx.d.c, .int .i64 tx.d.j, .int .i64 tx.d.lo, .int .i64 tx.d.hi, .int .i64 tx.d.dy, .int .i64 tx.d.bl, .int .i64 tx.p.q, .int .i64 tx.p.i, .int .i64 tx.p.h, .bool tx.p.pair, .int .i64 tx.now, .slice apx npx cpx, .slice alx nlx clx, .slice ahx nhx chx] = w7) := Zh (by rw [<- hz7, World.setRow_alloc_new, hw7])
   clear hw7
   by_cases hk1 : k < 0
   ·have d1 : decide (k < 0) = true := decide_eq_true hk1
    go_wp2_with (with_reducible refine J.zx HZK7.out HPZ7.out ?_)
    go_ret
    exact ⟨rfl, HB0.out⟩
   have d1 : decide (k < 0) = false := decide_eq_false hk1
   by_cases hk2 : (bs.length : Int) <= k
   ·have d2 : decide ((bs.length : Int) <= k) = true := decide_eq_true hk2
    go_wp2_with (with_reducible refine J.zx HZK7.out HPZ7.out ?_)
    go_ret
    exact ⟨rfl, HB0.out⟩
   have d2 : decide ((bs.length : Int) <= k) = false := decide_eq_false hk2
   obtain ⟨j, rfl⟩ : ∃ j : Nat, k = (j : Int) := ⟨k.toNat, by omega⟩
   have hj : j < bs.length := by omega
   have HJ := Zh hj
   have d3 : decide (bs.length <= j) = false := by simp; omega
   have hcc := HW4.out.1
   have s1 : ∀ w, (Instr.sliceAt 36 (.slice pa bs.length pc) none (some (.int .i64 (j : Int))) none).run Tryz.prog w = .ok (.slice (slk 1 pa 0 pc) j pc) w := fun w => zs7 (a := pa) (len := bs.length) (cap := pc) (k := 1) Tryz.underlying36 (fun _ => rfl) w (h := j) (by omega)
   have HRC : Hid (J.read (bs.take j) = none) := Zh (J.read_cut HPS.out hj)
   have HTL : Hid ((bs.take j).length = j) := Zh (by rw [List.length_take]; omega)
   have HRW : Hid (zfv .u8 w7 (slk 1 pa 0 pc) pc (bs.take j)) := Zh (by have := zo6 HW4.out (l := 0) (h := j) (m := pc) (Nat.zero_le _) (by omega) (by omega) hcc.2; rw [<- ztn, List.drop_zero, Nat.sub_zero] at this; exact this)
   have HRZ : Hid (slk 1 pa 0 pc = none -> j = 0 /\ pc = 0) := Zh (fun e => by have := HNZ.out (zse e); omega)
   clear hcc hj hk1 hk2
   have HRW7 := HRW
   go_wp2_with (with_reducible refine J.zx HZK7.out HPZ7.out ?_)
   refine (znb J.s00 false (slk 1 pa 0 pc) j pc (bs.take j) (by rw [HRC.out]; rfl) (by rw [HRC.out]; rfl) w7 (by have := HJ.out; omega) HTL.out HRW7.out HRZ.out).mono ?_
   rintro e w8 ⟨apz, npz, cpz, alz, nlz, clz, ahz, nhz, chz, rfl, hG, hb⟩
   replace HI0 := Zh (HI0.out.below hb)
   replace HM0 := Zh (HM0.out.below hb)
   replace KS1 := Zk KS1 hb
   replace HW4 := Zh (HW4.out.below hb)
   replace HGx6 := Zh (HGx6.out.below hb)
   replace KX7 := Zk KX7 hb
   replace HRW7 := Zh (HRW7.out.below hb)
   replace HB0 := Zt HB0 hb
   clear hb
   have HGz8 := hG
   as_aux_lemma =>
   clear hG
   obtain ⟨w9, hw9, hb, hk⟩ := Zn w8 32 #[.int .i64 J.s00.d.b, .int .i64 J.s00.d.k, .int .i64 J.s00.d.c, .int .i64 J.s00.d.j, .int .i64 J.s00.d.lo, .int .i64 J.s00.d.hi, .int .i64 J.s00.d.dy, .int .i64 J.s00.d.bl, .int .i64 J.s00.p.q, .int .i64 J.s00.p.i, .int .i64 J.s00.p.h, .bool J.s00.p.pair, .int .i64 J.s00.now, .slice apz npz cpz, .slice alz nlz clz, .slice ahz nhz chz]
   replace HI0 := Zh (HI0.out.below hb)
   replace HM0 := Zh (HM0.out.below hb)
   replace KS1 := Zk KS1 hb
   replace HW4 := Zh (HW4.out.below hb)
   replace HGx6 := Zh (HGx6.out.below hb)
   replace KX7 := Zk KX7 hb
   replace HRW7 := Zh (HRW7.out.below hb)
   replace HGz8 := Zh (HGz8.out.below hb)
   replace HB0 := Zt HB0 hb
   have KZ9 := Zh hk
   clear hb hk
   obtain ⟨wz9, hz9⟩ : ∃ W, w8.alloc (.cells #[.int .i64 0, .int .i64 0, .int .i64 0, .int .i64 0, .int .i64 0, .int .i64 0, .int .i64 0, .int .i64 0, .int .i64 0, .int .i64 0, .int .i64 0, .bool false, .int .i64 0, .slice none 0 0, .slice none 0 0, .slice none 0 0] 32) = W := ⟨_, rfl⟩
   have HZK9 : Hid (Blok wz9 w8.heap.size 32 #[.int .i64 0, .int .i64 0, .int .i64 0, .int .i64 0, .int .i64 0, .int .i64 0, .int .i64 0, .int .i64 0, .int .i64 0, .int .i64 0, .int .i64 0, .bool false, .int .i64 0, .slice none 0 0, .slice none 0 0, .slice none 0 0]) := Zh (by rw [<- hz9]; exact Blok.new w8 _ _)
   have HPZ9 : Hid (wz9.setRow w8.heap.size #[.int .i64 J.s00.d.b, .int .i64 J.s00.d.k, .int .i64 J.s00.d.c, .int .i64 J.s00.d.j, .int .i64 J.s00.d.lo, .int .i64 J.s00.d.hi, .int .i64 J.s00.d.dy, .int .i64 J.s00.d.bl, .int .i64 J.s00.p.q, .int .i64 J.s00.p.i, .int .i64 J.s00.p.h, .bool J.s00.p.pair, .int .i64 J.s00.now, .slice apz npz cpz, .slice alz nlz clz, .slice ahz nhz chz] = w9) := Zh (by rw [<- hz9, World.setRow_alloc_new, hw9])
   clear hw9
   go_wp2_with (with_reducible refine J.zx HZK9.out HPZ9.out ?_)
   go_ret
   exact ⟨rfl, HB0.out⟩
end Go.Proofs.YtijkbflimbffmaaGreat
