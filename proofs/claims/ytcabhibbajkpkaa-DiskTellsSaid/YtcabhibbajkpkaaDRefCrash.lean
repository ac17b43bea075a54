/-
  A walk of the document's Crash.
-/
import Derived.Test.YtcabhibbajkpkaaDRefTorn
import Derived.Test.YtcabhibbajkpkaaDRefMake
import Derived.Deep.CutRange
namespace Go.Proofs.Ytcabhibbajkpkaa
open Go.RowKit

/-- What the loop keeps. -/
structure KInv (x0 : World) (B : Nat) (k : Int) (xs : List FP) (v : Value) (zs : List FP) (wr : World) : Prop where
  own : wr.ownsRow B 43 3 v zs.length (FP.flat zs)
  each : ∀ z ∈ zs, z ∈ xs ∨ Own1 B wr z
  out : Blok wr x0.heap.size 24 #[.int .i64 k, v]
  below : Below x0.heap.size x0 wr
  base : B ≤ wr.heap.size
  xb : B = x0.heap.size + 1
theorem KInv.on {x0 wr w' : World} {B : Nat} {k : Int} {xs : List FP} {v : Value} {zs : List FP} (h : KInv x0 B k xs v zs wr) (hb : Below wr.heap.size wr w') : KInv x0 B k xs v zs w' :=
  ⟨ownsRow_below h.own hb, fun z hz => (h.each z hz).imp id (fun h1 => h1.below hb), h.out.on hb, h.below.trans (hb.mono h.below.size), Nat.le_trans h.base hb.size, h.xb⟩
theorem KInv.app {x0 wr w' : World} {B : Nat} {k : Int} {xs : List FP} {v v' : Value} {zs : List FP} {y : FP} {o : Obj} (h : KInv x0 B k xs v zs wr) (hy : y ∈ xs ∨ Own1 B wr y)
    (ho : w'.ownsRow B 43 3 v' (zs.length + 1) (FP.flat (zs ++ [y]))) (hg : (wr.alloc o).grownBy w' v.ownBlock) : KInv x0 B k xs v' (zs ++ [y]) (w'.setCell ⟨x0.heap.size, 1, none⟩ v') ∧ Blok w' x0.heap.size 24 #[.int .i64 k, v] := by
  have hb := (Below.refl wr.heap.size wr).alloc (Nat.le_refl _) o
  have h1 := h.on hb
  have hlt := h.xb
  have hv : ∀ g, v.ownBlock = some g → B ≤ g := fun g hg => (h.own.lt g hg).1
  have hgs := setCell_grown w' x0.heap.size 1 v'
  have hout : Blok w' x0.heap.size 24 #[.int .i64 k, v] := h1.out.grown hg (fun e => by have := hv _ e.symm; omega)
  refine ⟨⟨?_, fun z hz => ?_, ?_, ?_, ?_, h.xb⟩, hout⟩
  · rw [List.length_append]
    refine ho.kept hgs ?_
    cases hv' : v'.ownBlock with
    | none => exact .inl rfl
    | some g => exact .inr (fun e => by have := (ho.lt g hv').1; simp only [Option.some.injEq] at e; omega)
  · have hz' : z ∈ xs ∨ Own1 B (wr.alloc o) z := by
      rcases List.mem_append.1 hz with hz | hz
      · exact h1.each z hz
      · simp only [List.mem_singleton] at hz
        rw [hz]
        exact hy.imp id (fun h1 => h1.below hb)
    refine hz'.imp id fun hO => ?_
    refine (hO.grown hg (fun g hg' e => ?_)).grown hgs (fun g hg' e => ?_)
    · obtain ⟨cs, hcs⟩ := own_blok hO.1 (g := g.block) (by rw [hg']; rfl)
      obtain ⟨ds, hds⟩ := own_blok h1.own e.symm
      exact blok_ne hcs hds (by decide) rfl
    · have := (hO.lt hg').1
      simp only [Option.some.injEq] at e
      omega
  · simpa using hout.set 1 v'
  · exact (h1.below.grown hg h1.below.size (fun k ek => by have := hv k ek; omega)).setCell (p := ⟨x0.heap.size, 1, none⟩) (Nat.le_refl _) v'
  · obtain ⟨_, _, _, h2, _⟩ := hg
    have h3 := h.base
    simp at h2 ⊢
    omega
theorem D.after_of {no : Int} {L : List Int} {s E : Nat} {p1 p2 : Int} (hE : E = s + D.kept p1 (L.length - s)) (hle : E ≤ L.length) : D.after (no, L, (s : Int)) p1 p2 = (no, (if p2 % 2 = 0 then L.take E else D.torn (L.take E) s), (E : Int)) := by
  have hl : D.left (no, L, (s : Int)) p1 = L.take E := by
    unfold D.left
    simp only [Int.toNat_natCast]
    rw [← hE]
  unfold D.after
  simp only [hl, Int.toNat_natCast]
  rw [show (L.take E).length = E by simp; omega]

theorem refCrash_out (P : Nat → Prop) (k : Int) (a : Option Addr) (n c : Nat) (ap : Option Addr) (np cp : Nat) (xs : List FP) (ps : List Int) (w : World) (hd : DiskIn w a n c xs) (hs : D.small (FP.files xs)) (hP : ∀ b, b < w.heap.size → P b → Far b a xs) (hm : ¬ D.may (k, FP.files xs)) :
    Calls Try.prog 36 #[.agg #[.int .i64 k, .slice a n c], .slice ap np cp] w (RetD P (D.crash (k, FP.files xs) ps) w) := by
  have HD := Lib.hid hd
  have HS := Lib.hid hs
  have HFA := Lib.hid (far_all hd hP)
  have HM := Lib.hid (decide_eq_false hm)
  have HU : Hid (D.crash (k, FP.files xs) ps = (k, FP.files xs)) := Lib.hid (by unfold D.crash; rw [if_neg hm])
  have X0 : Hid (Below (dbn w k a n c).heap.size (dbn w k a n c) (dbn w k a n c)) := Lib.hid (Below.refl _ _)
  clear hd hs hm hP
  go_enter Try.func36, Try.ntmps36
  go_wp2_with fail
  refine (refMay_any k a n c xs false (dbn w k a n c) (HD.out.below (dbn_on X0.out)) HS.out HM.out).mono ?_
  rintro e w1 ⟨rfl, hb1⟩
  have X1 := Lib.hid (X0.out.trans (hb1.mono X0.out.size))
  have KA1 := Lib.hid ((dbn_arg w k a n c).on X1.out)
  have KR1 := Lib.hid ((dbn_res w k a n c).on X1.out)
  clear hb1
  have k0 := dk0 KA1.out
  have k1 := dk1 KA1.out
  have hfar : Far (w.heap.size + 1) a xs := HFA.out _ (.inr (by omega))
  have r0 := dk0 KR1.out
  have r1 := dk1 KR1.out
  have f0 := KR1.out.frozen 0
  have f1 := KR1.out.frozen 1
  go_wp2
  refine bodyPost_ret (ret_disk (g := w.heap.size + 1) rfl k a n c (by kernel_rfl) KR1.out.put) (by kernel_rfl) ?_
  exact ⟨a, n, c, xs, by rw [HU.out], Lib.hid (((HD.out.below (dbn_on X1.out)).set hfar 0 _).set hfar 1 _), Lib.hid (by rw [HU.out]), Lib.hid fun b hb hp => HFA.out b (.inl hp), below_store (dbn_on X1.out) (Nat.le_succ _) _ _ _ _⟩

set_option maxRecDepth 100000 in
set_option maxHeartbeats 600000 in
theorem refCrash_in (P : Nat → Prop) (k : Int) (a : Option Addr) (n c : Nat) (ap : Option Addr) (np cp : Nat) (xs : List FP) (ps : List Int) (w : World) (hd : DiskIn w a n c xs) (hs : D.small (FP.files xs)) (hP : ∀ b, b < w.heap.size → P b → Far b a xs) (hm : D.may (k, FP.files xs)) (hpl : ps.length = np) (hpr : RowIn .i64 w ap cp ps) :
    Calls Try.prog 36 #[.agg #[.int .i64 k, .slice a n c], .slice ap np cp] w (RetD P (D.crash (k, FP.files xs) ps) w) := by
  have HD := Lib.hid hd
  have HS := Lib.hid hs
  have HFA := Lib.hid (far_all hd hP)
  have hcap := hd.caps
  have hml : maxLen ≤ 9223372036854775807 := by decide
  have h14 : n ≤ 14 := by have h1 := hs.1; simp only [FP.files_len, hd.1] at h1; exact h1
  have HM := Lib.hid (decide_eq_true hm)
  have HFI : Hid (∀ f ∈ FP.files xs, D.fine f) := Lib.hid hm.2.1
  obtain ⟨T, hT⟩ : ∃ T, D.crashed (FP.files xs) ps = T := ⟨_, rfl⟩
  have HT := Lib.hid hT
  have HU : Hid (D.crash (k, FP.files xs) ps = (k, T)) := Lib.hid (by unfold D.crash; rw [if_pos hm, ← hT])
  have X0 : Hid (Below (dbn w k a n c).heap.size (dbn w k a n c) (dbn w k a n c)) := Lib.hid (Below.refl _ _)
  have HPL := Lib.hid hpl
  have HPR := Lib.hid hpr
  clear hd hs hm hT hP hpl hpr
  go_enter Try.func36, Try.ntmps36
  go_wp2_with fail
  refine (refMay_any k a n c xs true (dbn w k a n c) (HD.out.below (dbn_on X0.out)) HS.out HM.out).mono ?_
  rintro e w1 ⟨rfl, hb1⟩
  have X1 := Lib.hid (X0.out.trans (hb1.mono X0.out.size))
  have KA1 := Lib.hid ((dbn_arg w k a n c).on X1.out)
  have KR1 := Lib.hid ((dbn_res w k a n c).on X1.out)
  clear hb1
  have k0 := dk0 KA1.out
  have k1 := dk1 KA1.out
  go_wp2_with fail
  have hsz := dbn_lt X1.out
  have BX : Hid (Below w.heap.size w w1) := Lib.hid (dbn_on X1.out)
  obtain ⟨B, hB⟩ : ∃ B, B = w1.heap.size + 1 := ⟨_, rfl⟩
  have hBw : w.heap.size + 1 < w1.heap.size := hsz
  have HI0 : Hid (KInv w1 B k xs (.slice none 0 0) [] (dbox w1 k none 0 0)) := Lib.hid ⟨World.ownsRow_nil _ _ _ _, by simp, dbox_blok w1 k none 0 0, dbox_below w1 k none 0 0, by rw [hB, dbox_size]; exact Nat.le_refl _, hB⟩
  have HPF : Hid (np = 0 ∨ ∃ bp op, ap = some ⟨bp, op, none⟩ ∧ bp < w.heap.size ∧ ∀ (wx : World), Below w.heap.size w wx → ∀ q, q < np → wx.cell? ⟨bp, op + q, none⟩ = some (.int .i64 (ps.getD q 0))) := Lib.hid (by
    rcases HPR.out.2.2 with h | ⟨bp, op, h1, h2, h3⟩
    · exact .inl (by rw [← HPL.out, h]; rfl)
    · refine .inr ⟨bp, op, h1, h2, fun wx hb q hq => ?_⟩
      have hql : q < ps.length := by rw [HPL.out]; exact hq
      rw [hb.cell (p := ⟨bp, op + q, none⟩) h2, h3 q hql]
      try simp [hql])
  clear hB hsz k0 k1
  go_loopg [7, 8] n (fun g q i wr => ∃ (j i' : Nat) (v : Value) (zs : List FP), q = .int .i64 (i' : Int) ∧ i = .int .i64 (j : Int) ∧ j + g = n ∧ zs.length = j ∧ i' ≤ 2 * j ∧ Hid (KInv w1 B k xs v zs wr) ∧ Hid (FP.files zs ++ D.crashed (FP.files (xs.drop j)) (ps.drop i') = T))
  case atStart => exact ⟨0, 0, _, [], rfl, rfl, by omega, rfl, by omega, HI0, Lib.hid (by rw [← HT.out]; rfl)⟩
  case round =>
    obtain ⟨j, i, v, zs, rfl, rfl, hjn, hzl, hi2, HI, HG⟩ := hrel
    have XR := Lib.hid HI.out.below
    have KAr := Lib.hid (KA1.out.on XR.out)
    have KRr := Lib.hid (KR1.out.on XR.out)
    have XW := Lib.hid (BX.out.trans (XR.out.mono BX.out.size))
    have k0 := dk0 KAr.out
    have k1 := dk1 KAr.out
    obtain ⟨wo, rfl⟩ : ∃ w0, w0 = wr := ⟨_, rfl⟩
    by_cases hlt : j < n
    · obtain ⟨b1, o1, no1, a1, n1, c1, L1, s1, rfl, hb1, hx, p0, p1, p2, hok⟩ := ((HD.out.below XW.out).2.1).at (i := j) (by rw [HD.out.1]; exact hlt)
      have HX := Lib.hid hx
      have HOK := Lib.hid hok
      have hfine := HFI.out _ (List.mem_map.2 ⟨_, List.mem_of_getElem? hx, rfl⟩)
      have HD1 := Lib.hid (drop_cons hx)
      have hl1 : L1.length = n1 := hok.1
      have hs0 : 0 ≤ s1 ∧ s1 ≤ (n1 : Int) := by have h1 := hfine.2.2; simp only [FP.file] at h1; omega
      have hn7 : n1 ≤ 70000 := by
        have h1 := HS.out.2 (FP.file ⟨no1, a1, n1, c1, L1, s1⟩) (List.mem_map.2 ⟨_, List.mem_of_getElem? hx, rfl⟩)
        simp only [FP.file] at h1
        omega
      have hc1 : n1 ≤ c1 ∧ c1 ≤ maxLen := by have h1 := hok.2.1.1; simp only at h1; omega
      obtain ⟨s, rfl⟩ : ∃ s : Nat, s1 = s := ⟨s1.toNat, by omega⟩
      obtain ⟨lo, hlo⟩ : ∃ lo, n1 - s = lo := ⟨_, rfl⟩
      have hwn : IntKind.i64.wrap ((n1 : Int) - (s : Int)) = (lo : Int) := by rw [wrap_i64_small (by omega) (by omega)]; omega
      have HLO := Lib.hid hlo
      have HL1 := Lib.hid hl1
      have HGS : Hid (D.crashed (FP.files (xs.drop j)) (ps.drop i) = if (s : Int) = (L1.length : Int) then (no1, L1, (s : Int)) :: D.crashed (FP.files (xs.drop (j + 1))) (ps.drop i) else D.after (no1, L1, (s : Int)) ((ps.drop i).getD 0 0) ((ps.drop i).getD 1 0) :: D.crashed (FP.files (xs.drop (j + 1))) ((ps.drop i).drop 2)) := Lib.hid (by rw [HD1.out]; rfl)
      clear hx hok hfine hl1
      go_upto_if 40 with fail
      clear k0 k1 p0 p1 p2
      obtain ⟨W, hW⟩ : ∃ W, wo.alloc (.cells #[.int .i64 no1, .slice a1 n1 c1, .int .i64 (s : Int)] 43) = W := ⟨_, rfl⟩
      rw [hW]
      have FB : Hid (Below wo.heap.size wo W) := Lib.hid (by rw [← hW]; exact (Below.refl _ wo).alloc (Nat.le_refl _) _)
      have FK : Hid (Blok W wo.heap.size 43 #[.int .i64 no1, .slice a1 n1 c1, .int .i64 (s : Int)]) := Lib.hid (by rw [← hW]; exact Blok.new wo _ _)
      have hWs : W.heap.size = wo.heap.size + 1 := by rw [← hW]; simp
      have HXB := Lib.hid (XW.out.trans (FB.out.mono XW.out.size))
      clear hW
      go_cut [7] from 21 to 94 (fun s7 wx => ∃ (i' : Nat) (ax : Option Addr) (nx cx : Nat) (Lx : List Int) (s' : Int), s7 = .int .i64 (i' : Int) ∧ i' ≤ 2 * (j + 1) ∧ Hid (Blok wx wo.heap.size 43 #[.int .i64 no1, .slice ax nx cx, .int .i64 s']) ∧ Hid (Below wo.heap.size wo wx) ∧ Hid (FP.ok wx ⟨no1, ax, nx, cx, Lx, (nx : Int)⟩ ∧ ((⟨no1, ax, nx, cx, Lx, (nx : Int)⟩ : FP) ∈ xs ∨ Own1 (wo.heap.size + 1) wx ⟨no1, ax, nx, cx, Lx, (nx : Int)⟩)) ∧ Hid (D.crashed (FP.files (xs.drop j)) (ps.drop i) = (no1, Lx, (nx : Int)) :: D.crashed (FP.files (xs.drop (j + 1))) (ps.drop i')))
      case first =>
        by_cases hsn : s = n1
        · have d0 : decide (0 < lo) = false := by simp; omega
          have HM2 : Hid (D.crashed (FP.files (xs.drop j)) (ps.drop i) = (no1, L1, (n1 : Int)) :: D.crashed (FP.files (xs.drop (j + 1))) (ps.drop i)) := Lib.hid (by rw [HGS.out, if_pos (by rw [HL1.out, hsn]), hsn])
          have HY : Hid (FP.ok W ⟨no1, a1, n1, c1, L1, (n1 : Int)⟩ ∧ ((⟨no1, a1, n1, c1, L1, (n1 : Int)⟩ : FP) ∈ xs ∨ Own1 (wo.heap.size + 1) W ⟨no1, a1, n1, c1, L1, (n1 : Int)⟩)) := Lib.hid ⟨HOK.out.below FB.out, .inl (by have h1 := HX.out; rw [hsn] at h1; exact List.mem_of_getElem? h1)⟩
          go_wp2
          go_meet
          exact ⟨i, a1, n1, c1, L1, (s : Int), rfl, by omega, FK, FB, HY, HM2⟩
        · have d0 : decide (0 < lo) = true := by simp; omega
          have hlo0 : 0 < lo := by omega
          obtain ⟨q1, hq1⟩ : ∃ q, (ps.drop i).getD 0 0 = q := ⟨_, rfl⟩
          obtain ⟨q2, hq2⟩ : ∃ q, (ps.drop i).getD 1 0 = q := ⟨_, rfl⟩
          obtain ⟨od, hod⟩ : ∃ od, (!(q2.tmod 2 == 0)) = od := ⟨_, rfl⟩
          have HQ1 := Lib.hid hq1
          have HQ2 := Lib.hid hq2
          have HOD := Lib.hid hod
          clear hq1 hq2 hod
          go_upto_if 44 with fail
          go_cut [11] from 21 to 94 (fun s11 wx => s11 = .int .i64 q1 ∧ wx = W)
          case first =>
            by_cases hin : i < np
            · obtain ⟨bp, op, rfl, hbp, hcp⟩ := HPF.out.resolve_left (by omega)
              have hq : ps.getD i 0 = q1 := by rw [← HQ1.out]; simp
              have hc := hcp W HXB.out i hin
              rw [hq] at hc
              clear hcp hq
              go_wp2
              go_meet
              exact ⟨rfl, rfl⟩
            · have hd : decide (i < np) = false := by simp; omega
              have hq : q1 = 0 := by rw [← HQ1.out]; simp [List.getElem?_eq_none (show ps.length ≤ i by rw [HPL.out]; omega)]
              go_wp2
              go_meet
              exact ⟨by rw [hq], rfl⟩
          case rest =>
          obtain ⟨rfl, rfl⟩ := hcut
          have hwi : IntKind.i64.wrap ((i : Int) + 1) = (i : Int) + 1 := wrap_i64_small (by omega) (by omega)
          go_upto_if 53 with fail
          go_cut [12] from 21 to 94 (fun s12 wx => s12 = .bool od ∧ wx = wc)
          case first =>
            by_cases hin : i + 1 < np
            · obtain ⟨bp, op, rfl, hbp, hcp⟩ := HPF.out.resolve_left (by omega)
              have hq : ps.getD (i + 1) 0 = q2 := by rw [← HQ2.out]; simp
              have hc := hcp wc HXB.out (i + 1) hin
              rw [hq] at hc
              have hdd : decide ((i : Int) + 1 < (np : Int)) = true := by simp; omega
              clear hcp hq
              go_wp2
              go_meet
              exact ⟨by rw [← HOD.out]; rfl, rfl⟩
            · have hd : decide ((i : Int) + 1 < (np : Int)) = false := by simp; omega
              have hq : q2 = 0 := by rw [← HQ2.out]; simp [List.getElem?_eq_none (show ps.length ≤ i + 1 by rw [HPL.out]; omega)]
              go_wp2
              go_meet
              exact ⟨by rw [← HOD.out, hq]; rfl, rfl⟩
          case rest =>
          obtain ⟨rfl, rfl⟩ := hcut
          have hwi2 : IntKind.i64.wrap ((i : Int) + 2) = (i : Int) + 2 := wrap_i64_small (by omega) (by omega)
          obtain ⟨r1, hr1⟩ : ∃ r, (if q1 < 0 then 0 else q1) = r := ⟨_, rfl⟩
          have HR1 := Lib.hid hr1
          obtain ⟨kp, hkp⟩ : ∃ kp, D.kept q1 lo = kp := ⟨_, rfl⟩
          have HKP := Lib.hid hkp
          have hkl : kp ≤ lo := by rw [← hkp]; unfold D.kept; split; omega; split <;> omega
          clear hr1 hkp
          go_upto_if 64 with fail
          go_cut [11] from 21 to 94 (fun s11 wx => s11 = .int .i64 r1 ∧ wx = wc)
          case first =>
            by_cases hq0 : q1 < 0
            · have hd : decide (q1 < 0) = true := by simpa using hq0
              have hr : r1 = 0 := by rw [← HR1.out, if_pos hq0]
              go_wp2
              go_meet
              exact ⟨by first | rfl | rw [hr], rfl⟩
            · have hd : decide (q1 < 0) = false := by simpa using hq0
              have hr : r1 = q1 := by rw [← HR1.out, if_neg hq0]
              go_wp2
              go_meet
              exact ⟨by first | rfl | rw [hr], rfl⟩
          case rest =>
          obtain ⟨rfl, rfl⟩ := hcut
          go_upto_if 67 with fail
          go_cut [11] from 21 to 94 (fun s11 wx => s11 = .int .i64 (kp : Int) ∧ wx = wc)
          case first =>
            by_cases hq0 : (lo : Int) < r1
            · have hd : decide ((lo : Int) < r1) = true := by simpa using hq0
              have hr : kp = lo := by
                rw [← HKP.out]; rw [← HR1.out] at hq0; unfold D.kept
                by_cases h1 : q1 < 0
                · rw [if_pos h1] at hq0; omega
                · rw [if_neg h1] at hq0; rw [if_neg h1, if_pos hq0]
              go_wp2
              go_meet
              exact ⟨by first | rfl | rw [hr], rfl⟩
            · have hd : decide ((lo : Int) < r1) = false := by simpa using hq0
              have hr : r1 = (kp : Int) := by
                rw [← HKP.out]; rw [← HR1.out] at hq0 ⊢; unfold D.kept
                by_cases h1 : q1 < 0
                · rw [if_pos h1, if_pos h1]; rfl
                · rw [if_neg h1] at hq0; rw [if_neg h1, if_neg h1, if_neg hq0]; omega
              go_wp2
              go_meet
              exact ⟨by first | rfl | rw [hr], rfl⟩
          case rest =>
          obtain ⟨rfl, rfl⟩ := hcut
          obtain ⟨E, hE⟩ : ∃ E, s + kp = E := ⟨_, rfl⟩
          have hEn : s ≤ E ∧ E ≤ n1 := by omega
          have hwe : IntKind.i64.wrap ((s : Int) + (kp : Int)) = (E : Int) := by rw [wrap_i64_small (by omega) (by omega)]; omega
          have hee : (s : Int) + (kp : Int) = (E : Int) := by omega
          have HAF : Hid (D.crashed (FP.files (xs.drop j)) (ps.drop i) = (no1, (if q2 % 2 = 0 then L1.take E else D.torn (L1.take E) s), (E : Int)) :: D.crashed (FP.files (xs.drop (j + 1))) (ps.drop (i + 2))) := Lib.hid (by
            rw [HGS.out, if_neg (by rw [HL1.out]; omega), HQ1.out, HQ2.out, List.drop_drop, D.after_of (E := E) (by rw [HL1.out, HLO.out, HKP.out]; exact hE.symm) (by rw [HL1.out]; exact hEn.2)])
          have hTL : (L1.take E).length = E := by have := HL1.out; simp; omega
          have hsl : ∀ w, (Instr.sliceAt 25 (.slice a1 n1 c1) none (some (.int .i64 (E : Int))) none).run Try.prog w = .ok (.slice (sl a1 0 c1) E c1) w := fun w => sliceB_h a1 w (by omega)
          have hRW : RowIn .u8 wc (sl a1 0 c1) c1 (L1.take E) := by
            have h2 := row_sliced (HOK.out.2.1.below FB.out) (l := 0) (h := E) (m := c1) (by omega) (by simp only; rw [HL1.out]; omega) (by omega) hc1.2
            simpa using h2
          obtain ⟨v3, w3, hrun3, ho3, hB3⟩ := appendB_own (B := wo.heap.size + 1) (w0 := wc) (w := wc) 25 (L := []) (K := L1.take E) (World.ownsRow_nil wc (wo.heap.size + 1) 5 1) (by omega) (by rw [← hWs]; exact Below.refl _ wc) hRW hTL (fun hn => by have h3 := HOK.out.2.2 (sl_none hn); simp only at h3; omega) (by simp; omega)
          rw [List.nil_append] at ho3
          obtain ⟨a5, c5, rfl, hr5, hz5, hnb⟩ := own_fresh ho3 hRW.2.1
          rw [hTL] at hrun3 hz5 ho3
          have hB3' : Below wc.heap.size wc w3 := by rw [hWs]; exact hB3
          have KF3 := Lib.hid (FK.out.on hB3')
          have hgs3 := setCell_grown w3 wo.heap.size 1 (.slice a5 E c5)
          have HK3 : Hid (Blok (w3.setCell ⟨wo.heap.size, 1, none⟩ (.slice a5 E c5)) wo.heap.size 43 #[.int .i64 no1, .slice a5 E c5, .int .i64 (s : Int)]) := Lib.hid (by simpa using KF3.out.set 1 (.slice a5 E c5))
          have HB3 : Hid (Below wo.heap.size wo (w3.setCell ⟨wo.heap.size, 1, none⟩ (.slice a5 E c5))) := Lib.hid ((FB.out.trans (hB3'.mono FB.out.size)).setCell (p := ⟨wo.heap.size, 1, none⟩) (Nat.le_refl _) _)
          have HO3 : Hid ((w3.setCell ⟨wo.heap.size, 1, none⟩ (.slice a5 E c5)).ownsRow (wo.heap.size + 1) 5 1 (.slice a5 E c5) E ((L1.take E).map (Value.int .u8))) := Lib.hid (by
            refine ho3.kept hgs3 ?_
            cases hv' : (Value.slice a5 E c5).ownBlock with
            | none => exact .inl rfl
            | some g => exact .inr (fun e => by have := (ho3.lt g hv').1; simp only [Option.some.injEq] at e; omega))
          have HRT : Hid (∀ x ∈ L1.take E, (Lit.int .u8 x).wf = true) := Lib.hid hRW.2.1
          have HTL := Lib.hid hTL
          have HZ5 := Lib.hid hz5
          have m1 := fk1 KF3.out
          have m2 := KF3.out.frozen 1
          have f1 := fk1 FK.out
          have f2 := fk2 FK.out
          clear hRW ho3 hr5 hz5 hnb hB3 hB3' hgs3 hTL
          go_upto_if 78 with (at_builtin; refine wpList_append_run (v' := .slice a5 E c5) (w' := w3) rfl rfl rfl rfl hrun3 ?_)
          clear hrun3 hsl m1 m2 f1 f2
          obtain ⟨W3, hW3⟩ : ∃ W3, w3.setCell ⟨wo.heap.size, 1, none⟩ (.slice a5 E c5) = W3 := ⟨_, rfl⟩
          rw [hW3] at HK3 HB3 HO3 ⊢
          clear hW3 KF3
          cases od with
          | true =>
            have hq2 : ¬ q2 % 2 = 0 := fun h => by
              have h1 := HOD.out
              rw [Int.tmod_eq_zero_of_dvd (Int.dvd_of_emod_eq_zero h)] at h1
              exact absurd h1 (by decide)
            have HAO : Hid (D.crashed (FP.files (xs.drop j)) (ps.drop i) = (no1, D.torn (L1.take E) s, (E : Int)) :: D.crashed (FP.files (xs.drop (j + 1))) (ps.drop (i + 2))) := Lib.hid (by rw [HAF.out, if_neg hq2])
            have y1 := fk1 HK3.out
            have y2 := fk2 HK3.out
            clear hq2
            go_wp2_with fail
            refine (refTorn_any a5 E c5 (L1.take E) s W3 (row3_like HO3.out HRT.out) HTL.out (fun h => HZ5.out h) (by omega) (by omega)).mono ?_
            rintro e w6 ⟨v6, rfl, HV6, HW6, hb6⟩
            obtain ⟨a6, c6, rfl, hr6, hz6, hnb6⟩ := own_fresh HV6.out HW6.out
            have htl : (D.torn (L1.take E) s).length = E := by rw [← HTL.out]; simp [D.torn]
            have HTT := Lib.hid htl
            have hv6 := HV6.out
            rw [htl] at hz6 hv6
            have HZ6 := Lib.hid hz6
            have KF6 := Lib.hid (HK3.out.on hb6)
            have hsz3 : wo.heap.size + 1 ≤ W3.heap.size := HK3.out.lt
            have hgs6 := setCell_grown w6 wo.heap.size 1 (.slice a6 E c6)
            have HK6 : Hid (Blok (w6.setCell ⟨wo.heap.size, 1, none⟩ (.slice a6 E c6)) wo.heap.size 43 #[.int .i64 no1, .slice a6 E c6, .int .i64 (s : Int)]) := Lib.hid (by simpa using KF6.out.set 1 (.slice a6 E c6))
            have HB6 : Hid (Below wo.heap.size wo (w6.setCell ⟨wo.heap.size, 1, none⟩ (.slice a6 E c6))) := Lib.hid ((HB3.out.trans (hb6.mono HB3.out.size)).setCell (p := ⟨wo.heap.size, 1, none⟩) (Nat.le_refl _) _)
            have HO6 : Hid (Own1 (wo.heap.size + 1) (w6.setCell ⟨wo.heap.size, 1, none⟩ (.slice a6 E c6)) ⟨no1, a6, E, c6, D.torn (L1.take E) s, (E : Int)⟩) := Lib.hid (by
              refine ⟨(ownsRow_base hv6 hsz3).kept hgs6 ?_, HW6.out⟩
              cases hv' : (Value.slice a6 E c6).ownBlock with
              | none => exact .inl rfl
              | some g => exact .inr (fun e => by have := (hv6.lt g hv').1; simp only [Option.some.injEq] at e; omega))
            have m1 := fk1 KF6.out
            have m2 := KF6.out.frozen 1
            rw [htl]
            clear hr6 hz6 hnb6 htl hv6 hb6 hgs6 y1 y2
            go_wp2
            go_meet
            exact ⟨i + 2, a6, E, c6, D.torn (L1.take E) s, (s : Int), by simp, by omega, HK6, HB6, Lib.hid ⟨HO6.out.ok, .inr HO6.out⟩, HAO⟩
          | false =>
            have hq2 : q2 % 2 = 0 := by
              have h1 := HOD.out
              simp only [Bool.not_eq_false', beq_iff_eq] at h1
              exact Int.emod_eq_zero_of_dvd (Int.dvd_of_tmod_eq_zero h1)
            have HAO : Hid (D.crashed (FP.files (xs.drop j)) (ps.drop i) = (no1, L1.take E, (E : Int)) :: D.crashed (FP.files (xs.drop (j + 1))) (ps.drop (i + 2))) := Lib.hid (by rw [HAF.out, if_pos hq2])
            have HO6 : Hid (Own1 (wo.heap.size + 1) W3 ⟨no1, a5, E, c5, L1.take E, (E : Int)⟩) := Lib.hid ⟨HO3.out, HRT.out⟩
            clear hq2
            go_wp2
            go_meet
            exact ⟨i + 2, a5, E, c5, L1.take E, (s : Int), by simp, by omega, HK3, HB3, Lib.hid ⟨HO6.out.ok, .inr HO6.out⟩, HAO⟩
      case rest =>
        obtain ⟨i', ax, nx, cx, Lx, s', rfl, hi', HK, HBw, HY, HG2⟩ := hcut
        have hwoB := HI.out.base
        have hxb := HI.out.xb
        have y1 := fk1 HK.out
        have y2 := fk2 HK.out
        have z2 := HK.out.frozen 2
        have KF9 : Hid (Blok (wc.setCell ⟨wo.heap.size, 2, none⟩ (.int .i64 (nx : Int))) wo.heap.size 43 #[.int .i64 no1, .slice ax nx cx, .int .i64 (nx : Int)]) := Lib.hid (by simpa using HK.out.set 2 (.int .i64 (nx : Int)))
        have HB9 : Hid (Below wo.heap.size wo (wc.setCell ⟨wo.heap.size, 2, none⟩ (.int .i64 (nx : Int)))) := Lib.hid (HBw.out.setCell (p := ⟨wo.heap.size, 2, none⟩) (Nat.le_refl _) _)
        have HY9 : Hid ((⟨no1, ax, nx, cx, Lx, (nx : Int)⟩ : FP) ∈ xs ∨ Own1 B (wc.setCell ⟨wo.heap.size, 2, none⟩ (.int .i64 (nx : Int))) ⟨no1, ax, nx, cx, Lx, (nx : Int)⟩) := Lib.hid (HY.out.2.imp id (fun h => by
          have h1 := h.grown (setCell_grown wc wo.heap.size 2 (.int .i64 (nx : Int))) (fun g hg e => by have := (h.lt hg).1; simp only [Option.some.injEq] at e; omega)
          exact ⟨ownsRow_base h1.1 (by omega), h1.2⟩))
        have HOK9 : Hid (FP.ok (wc.setCell ⟨wo.heap.size, 2, none⟩ (.int .i64 (nx : Int))) ⟨no1, ax, nx, cx, Lx, (nx : Int)⟩) := Lib.hid (by
          rcases HY9.out with h | h
          · exact (HD.out.below (XW.out.trans (HB9.out.mono XW.out.size))).2.1.2.1 _ h
          · exact h.ok)
        have HI9 := Lib.hid (HI.out.on HB9.out)
        have HG9 : Hid (FP.files (zs ++ [⟨no1, ax, nx, cx, Lx, (nx : Int)⟩]) ++ D.crashed (FP.files (xs.drop (j + 1))) (ps.drop i') = T) := Lib.hid (by
          have h1 := HG.out
          rw [HG2.out] at h1
          rw [FP.files_append, List.append_assoc]
          exact h1)
        go_upto_region 27 with fail
        obtain ⟨W9, hW9⟩ : ∃ W9, wc.setCell ⟨wo.heap.size, 2, none⟩ (.int .i64 (nx : Int)) = W9 := ⟨_, rfl⟩
        rw [hW9] at KF9 HB9 HY9 HOK9 HI9 ⊢
        clear hW9 y1 y2 z2 HK HBw HY
        have y0 := fk0 KF9.out
        have y1 := fk1 KF9.out
        have y2 := fk2 KF9.out
        have u1 := dk1 HI9.out.out
        have hb9 := HI9.out.base
        go_wp2_with (
          at_builtin
          refine wpList_append_files _ rfl _ _ rfl B v zs.length zs rfl (ownsRow_below HI9.out.own ((Below.refl _ W9).alloc (Nat.le_refl _) _)) (some ⟨W9.heap.size, 0, none⟩) 1 1 [⟨no1, ax, nx, cx, Lx, (nx : Int)⟩] rfl (one_file HOK9.out) (by omega) (by simp; omega) ?_
          intro v2 w10 hown2 hgrow2
          obtain ⟨g8, c8, rfl, _, _⟩ := hown2.form (by omega)
          obtain ⟨hA1, hA2⟩ := HI9.out.app HY9.out hown2 hgrow2
          rw [hzl] at hA1
          have HA := Lib.hid hA1
          have q9 := dk1 hA2
          have z9 := hA2.frozen 1
          clear hown2 hgrow2 hA1 hA2)
        go_roundg (n - (j + 1))
        case rel => exact ⟨j + 1, i', _, zs ++ [⟨no1, ax, nx, cx, Lx, (nx : Int)⟩], rfl, by go_num, by omega, by simp [hzl], hi', HA, HG9⟩
        case measure => omega
    · have hd : decide (j < n) = false := by simp; omega
      have hdn : xs.drop j = [] := List.drop_eq_nil_of_le (by rw [HD.out.1]; omega)
      have HFZ : Hid (FP.files zs = T) := Lib.hid (by have h1 := HG.out; rw [hdn] at h1; simpa [FP.files, D.crashed] using h1)
      have hown := HI.out.own
      rw [hzl] at hown
      have HOW := Lib.hid hown
      obtain ⟨a3, c3, rfl, hfl, hz⟩ := own_files hown hzl (fun z hz => by
        rcases HI.out.each z hz with h | h
        · exact (HD.out.below XW.out).2.1.2.1 _ h
        · exact h.ok)
      have HFL := Lib.hid hfl
      have HZZ := Lib.hid hz
      have hxb := HI.out.xb
      have l0 := dk0 HI.out.out
      have l1 := dk1 HI.out.out
      have r0 := dk0 KRr.out
      have r1 := dk1 KRr.out
      have f0 := KRr.out.frozen 0
      have f1 := KRr.out.frozen 1
      have hfx : ∀ b, b < B → orNew P w b → Far b a3 zs := fun b hb hp => by
        refine ⟨?_, fun z hz => ?_⟩
        · rintro q off rfl _ rfl
          have := (HOW.out.lt q rfl).1
          omega
        · rcases HI.out.each z hz with h | h
          · exact (HFA.out b hp).2 z h
          · refine .inr fun y hy hyb => ?_
            have := (h.lt hy).1
            omega
      have HFX := Lib.hid hfx
      clear hfx hfl hz hdn hown
      go_wp2
      (try rw [Exit.noGoto_ret])
      have hDI : DiskIn wo a3 j c3 zs := ⟨hzl, HFL.out, HZZ.out⟩
      have hfar := HFX.out (w.heap.size + 1) (by omega) (.inr (by omega))
      refine bodyPost_ret (ret_disk (g := w.heap.size + 1) rfl k a3 j c3 (by kernel_rfl) KRr.out.put) (by kernel_rfl) ?_
      exact ⟨a3, _, c3, zs, by rw [HU.out], Lib.hid ((hDI.set hfar 0 _).set hfar 1 _), Lib.hid (by rw [HFZ.out, HU.out]), Lib.hid fun b hb hp => HFX.out b (by omega) (.inl hp), below_store XW.out (Nat.le_succ _) _ _ _ _⟩

/-- The document's **Crash**, at every disk. -/
theorem refCrash_any (P : Nat → Prop) (k : Int) (a : Option Addr) (n c : Nat) (ap : Option Addr) (np cp : Nat) (xs : List FP) (ps : List Int) (w : World) (hd : DiskIn w a n c xs) (hs : D.small (FP.files xs)) (hP : ∀ b, b < w.heap.size → P b → Far b a xs) (hpl : ps.length = np) (hpr : RowIn .i64 w ap cp ps) :
    Calls Try.prog 36 #[.agg #[.int .i64 k, .slice a n c], .slice ap np cp] w (RetD P (D.crash (k, FP.files xs) ps) w) := by
  by_cases hm : D.may (k, FP.files xs)
  · exact refCrash_in P k a n c ap np cp xs ps w hd hs hP hm hpl hpr
  · exact refCrash_out P k a n c ap np cp xs ps w hd hs hP hm
end Go.Proofs.Ytcabhibbajkpkaa
