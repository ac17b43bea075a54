import Derived.Scope
import Derived.RangeFuncNested
import Derived.Test.YtnbkkjcmblfhpaaGreatP14
import Derived.Test.YtnbkkjcmblfhpaaGreatP15
import Derived.Test.YtnbkkjcmblfhpaaGreatP16
import Derived.Test.YtnbkkjcmblfhpaaGreatP0
import Derived.Test.YtnbkkjcmblfhpaaGreatP6
import Derived.Test.YtnbkkjcmblfhpaaGreatP13
namespace Go.Proofs.YtnbkkjcmblfhpaaGreat
set_option maxHeartbeats 2000000
set_option maxRecDepth 100000
open Go.RowKit
theorem zqd (b H : Nat) (s : Y.St) (A : Y.A9) (an : Option Addr) (nn cn : Nat) (N : List Int) (n : Nat) (hn : N[13]? = some (n : Int)) (hnn : 15 <= nn) (hs0 : s.l = []) (pa : Option Addr) (pl pc : Nat) (P : List Int) (w : World) (hl : P.length = pl) (hR : zfv .u8 w pa pc P) (h : J.Rd w b H s A an nn cn N) (hH : H <= w.heap.size) :
  Calls Tryz.prog 114 #[.pointer (some ⟨b, 0, none⟩), .slice pa pl pc] w fun r w' => ∃ (v : Bool) (A' : Y.A9), r = .returned (.bool v) /\ v = (K.unpack P n 10).isSome /\ Hid (J.Rd w' b H { s with l := ((K.unpack P n 10).getD []).map (J.mkL s.now) } A' an nn cn N) /\ (A'.ap = A.ap /\ A'.np = A.np /\ A'.nh = A.nh /\ A'.cp = A.cp) /\ A'.nl <= 400 /\ J.Far b H w w' := by
 obtain ⟨i0, hi, hz0, hz1, hz2⟩ := zay
 obtain ⟨ap, np, cp, al, nl, cl, ah, nh, ch⟩ := A
 have HR := Zh h
 have HP := Zh hR
 have HL := Zh hl
 have HH := Zh hH
 obtain ⟨gn, rfl⟩ : ∃ gn, an = some ⟨gn, 0, none⟩ := by
  obtain ⟨q', cp, e⟩ := J.row_some h.n (by omega)
  simp only [Value.slice.injEq] at e; exact ⟨q', e.1⟩
 have c16 := Zv h.k 16 (.slice (some ⟨gn, 0, none⟩) nn cn)
 have cN : w.cell? ⟨gn, 13, none⟩ = some (.int .i64 n) := by
  rw [h.n.cellAt 13 (by omega)]
  simp [hn]
 have i1 : (13 : Int) < nn := by omega
 have hl0 : s.l.length = nl := h.o.nl
 rw [hs0] at hl0
 have hm0 : nl = 0 := hl0.symm
 clear h hR hl hH hn hl0
 go_enter Tryz.func114, Tryz.ntmps114
 go_wp2_with fail
 refine (zo4 pa pl pc P n 10 _ HL.out HP.out).mono ?_
 rintro e w1 ⟨v, ok, rfl, hok, hrow, hb⟩
 obtain ⟨a2, c2, rfl⟩ := zm9 hrow
 have HR1 := Zh (HR.out.below hb)
 have HF1 : Hid (J.Far b H w w1) := Zh (J.Far.of_below hb HH.out)
 have HS1 := Zh (Nat.le_trans HH.out hb.size)
 have HBD := Zh (fun l (hl : K.unpack P n 10 = some l) => J.unpack_bd (w := 10) HP.out.2.1 hl)
 obtain ⟨S, hS⟩ : ∃ S, (K.unpack P n 10).getD [] = S := ⟨_, rfl⟩
 have hbd : ∀ x ∈ S, 0 <= x /\ x < 2 ^ 10 := by
  cases hz : K.unpack P n 10 with
  | none => rw [hz] at hS; subst hS; intro x hx; cases hx
  | some l => rw [hz] at hS; obtain rfl : l = S := hS; exact (HBD.out _ hz).1
 have hSl : S.length <= 400 := by
  cases hz : K.unpack P n 10 with
  | none => rw [hz] at hS; subst hS; simp
  | some l => rw [hz] at hS; obtain rfl : l = S := hS; exact (K.pack_some.1 (HBD.out _ hz).2.2).1
 rw [hS] at hrow ⊢
 have HO := Zh hrow
 have HOK := Zh hok
 have HSS := Zh hS
 have HBS := Zh hbd
 clear hb hrow hok hS hbd c16 cN
 obtain ⟨q, hq⟩ : ∃ q, S.length = q := ⟨_, rfl⟩
 rw [hq] at HO hSl ⊢
 have HQ := Zh hq
 clear hq
 go_wp2_with fail
 go_loopw [22] (fun i wr => ∃ (k : Nat) (a1 : Option Addr) (c1 : Nat), i = .int .i64 k /\ k <= q /\ Hid (J.Rd wr b H { s with l := (S.take k).map (J.mkL s.now) } ⟨ap, np, cp, a1, k, c1, ah, nh, ch⟩ (some ⟨gn, 0, none⟩) nn cn N) /\ Hid (wr.ownsRow H 3 1 (.slice a2 q c2) q (S.map (Value.int .i64))) /\ Hid (J.Far b H w wr) /\ Hid (H <= wr.heap.size)) (fun i _ => q - (intOf i).toNat)
 case atStart => exact ⟨0, al, cl, rfl, by omega, by subst hm0; rw [List.take_zero, List.map_nil, <- hs0]; exact HR1, Zh (zde HO.out HH.out), HF1, HS1⟩
 case round =>
  obtain ⟨k, a1, c1, rfl, hkm, HRr, HOr, HFr, HSr⟩ := hrel
  by_cases hlt : k < q
  ·have d3 : decide ((k : Int) < q) = true := by simp; omega
   obtain ⟨g2, rfl⟩ : ∃ g2, a2 = some ⟨g2, 0, none⟩ := by
    obtain ⟨q', cp, e⟩ := J.row_some HOr.out (by omega)
    simp only [Value.slice.injEq] at e; exact ⟨q', e.1⟩
   have hk : k < S.length := by rw [HQ.out]; exact hlt
   obtain ⟨x, hx⟩ : ∃ x, S[k]? = some x := ⟨_, List.getElem?_eq_getElem hk⟩
   have cS : wr.cell? ⟨g2, k, none⟩ = some (.int .i64 x) := by
    rw [HOr.out.cellAt k (by omega), List.getElem?_map, hx]
    rfl
   have hxb := HBS.out x (List.mem_of_getElem? hx)
   have t1 : x.tdiv 32 = x / 32 := Int.tdiv_eq_ediv_of_nonneg hxb.1
   have t2 : x.tmod 32 = x % 32 := Int.tmod_eq_emod_of_nonneg hxb.1
   have t3 : (x % 32).tdiv 8 = x % 32 / 8 := Int.tdiv_eq_ediv_of_nonneg (by omega)
   have t4 : x.tmod 8 = x % 8 := Int.tmod_eq_emod_of_nonneg hxb.1
   have t5 : x.tdiv 8 = x / 8 := Int.tdiv_eq_ediv_of_nonneg hxb.1
   have t6 : IntKind.i64.wrap (x / 32) = x / 32 := by rw [IntKind.wrap_i64]; omega
   have t7 : IntKind.i64.wrap (x % 32 / 8) = x % 32 / 8 := by rw [IntKind.wrap_i64]; omega
   have t8 : IntKind.i64.wrap (x / 8) = x / 8 := by rw [IntKind.wrap_i64]; omega
   have HX := Zh hx
   have j0 : (0 : Int) <= k := by omega
   have j1 : (k : Int) < q := by omega
   clear hx hk
   go_wp2_with fail
   refine Zd (fun w' => ∃ v : Value, Blok w' b 153 #[.int .i64 s.d.b, .int .i64 s.d.k, .int .i64 s.d.c, .int .i64 s.d.j, .int .i64 s.d.lo, .int .i64 s.d.hi, .int .i64 s.d.dy, .int .i64 s.d.bl, .int .i64 s.p.q, .int .i64 s.p.i, .int .i64 s.p.h, .bool s.p.pair, .int .i64 s.now, .slice ap np cp, v, .slice ah nh ch, .slice (some ⟨gn, 0, none⟩) nn cn]) (⟨_, (HRr.out.below (zaa wr)).k⟩) fun RS0 => ?_
   refine Zq 0 b 0 RS0 ?_
   refine Zq 1 b 0 RS0 ?_
   refine Zq 2 b 0 RS0 ?_
   refine Zq 3 b 0 RS0 ?_
   refine Zq 4 b 14 RS0 ?_
   refine tk 6 (.int .i64 x) RS0 ?_
   refine wpAnyH_take (i := 7) (v := .int .i64 (x / 32)) rfl (by kernel_rfl) (by kernel_rfl) (by kernel_rfl) (fun _ _ _ h => h) (.inl ⟨by kernel_rfl, fun w9 hS => by go_simp⟩) RS0 ?_
   refine tk 8 (.int .i64 x) RS0 ?_
   refine wpAnyH_take (i := 9) (v := .int .i64 (x % 32)) rfl (by kernel_rfl) (by kernel_rfl) (by kernel_rfl) (fun _ _ _ h => h) (.inl ⟨by kernel_rfl, fun w9 hS => by go_simp⟩) RS0 ?_
   refine wpAnyH_take (i := 10) (v := .int .i64 (x % 32 / 8)) rfl (by kernel_rfl) (by kernel_rfl) (by kernel_rfl) (fun _ _ _ h => h) (.inl ⟨by kernel_rfl, fun w9 hS => by go_simp⟩) RS0 ?_
   refine tk 11 (.int .i64 x) RS0 ?_
   refine wpAnyH_take (i := 12) (v := .int .i64 (x % 8)) rfl (by kernel_rfl) (by kernel_rfl) (by kernel_rfl) (fun _ _ _ h => h) (.inl ⟨by kernel_rfl, fun w9 hS => by go_simp⟩) RS0 ?_
   refine Zq 13 b 0 RS0 ?_
   refine Zq 14 b 0 RS0 ?_
   refine Zq 15 b 0 RS0 ?_
   refine Zq 16 b 12 RS0 ?_
   refine Zl 17 (.int .i64 s.now) rfl (fun w9 hS => by
      obtain ⟨v, hv⟩ := hS
      have y12 := hv.cell 12
      go_simp) RS0 ?_
   refine tk 18 (.agg #[.int .i64 (x / 32), .int .i64 (x % 32 / 8), .int .i64 (x % 8), .int .i64 0, .int .i64 s.now]) RS0 ?_
   have HRd := Zh (HRr.out.below (zaa wr))
   have HFd := Zh (HFr.out.trans (J.Far.of_below (zaa wr) HSr.out))
   have HSd := Zh (Nat.le_trans HSr.out (zaa wr).size)
   have HOd := Zh (zab HOr.out (zaa wr))
   obtain ⟨wd, hwd⟩ : ∃ V, World.drew wr = V := ⟨_, rfl⟩
   rw [hwd] at RS0 HRd HFd HSd HOd ⊢
   clear hwd
   have hba : Below wd.heap.size wd (wd.alloc (.cells #[.int .i64 (x / 32), .int .i64 (x % 32 / 8), .int .i64 (x % 8), .int .i64 0, .int .i64 s.now] 104)) := (Below.refl _ wd).alloc (Nat.le_refl _) _
   have HRa := Zh (HRd.out.below hba)
   have HFa := Zh (HFd.out.trans (J.Far.of_below hba HSd.out))
   have HSa := Zh (Nat.le_trans HSd.out hba.size)
   have HOa := Zh (zab HOd.out hba)
   have HKa := Zh (Blok.new wd 104 #[.int .i64 (x / 32), .int .i64 (x % 32 / 8), .int .i64 (x % 8), .int .i64 0, .int .i64 s.now])
   have RSa : (fun w' => ∃ v : Value, Blok w' b 153 #[.int .i64 s.d.b, .int .i64 s.d.k, .int .i64 s.d.c, .int .i64 s.d.j, .int .i64 s.d.lo, .int .i64 s.d.hi, .int .i64 s.d.dy, .int .i64 s.d.bl, .int .i64 s.p.q, .int .i64 s.p.i, .int .i64 s.p.h, .bool s.p.pair, .int .i64 s.now, .slice ap np cp, v, .slice ah nh ch, .slice (some ⟨gn, 0, none⟩) nn cn]) (wd.alloc (.cells #[.int .i64 (x / 32), .int .i64 (x % 32 / 8), .int .i64 (x % 8), .int .i64 0, .int .i64 s.now] 104)) := ⟨_, HRa.out.k⟩
   obtain ⟨wa, hwa⟩ : ∃ V, wd.alloc (.cells #[.int .i64 (x / 32), .int .i64 (x % 32 / 8), .int .i64 (x % 8), .int .i64 0, .int .i64 s.now] 104) = V := ⟨_, rfl⟩
   rw [hwa] at HRa HFa HSa HOa HKa RSa
   clear hba
   have dd := Zv HRd.out.k 14 (.slice a1 k c1)
   have da := Zv HRa.out.k 14 (.slice a1 k c1)
   refine za8 (i := 5) (j := 19) (by kernel_rfl) ?_ ?_
   ·skip
    refine zam (v := .slice a1 k c1) (w' := wd) rfl (by kernel_rfl) (by go_simp) ⟨RS0, ?_⟩
    refine zaf (i := 19) (by kernel_rfl) (zam (v := .slice (some ⟨wd.heap.size, 0, none⟩) 1 1) (w' := wa) rfl (by kernel_rfl) (by rw [<- hwa]; kernel_rfl) ⟨RSa, ?_⟩)
    refine zaf (i := 20) (by kernel_rfl) (znd rfl (by kernel_rfl) _ _ 34 (by rfl) H 104 i0 (.agg #[.int .i64 0, .int .i64 0, .int .i64 0, .int .i64 0, .int .i64 0]) 5 40 Tryz.underlying34 hi hz0 hz1 hz2 rfl (by decide) (.slice a1 k c1) k (L.flat ((S.take k).map (J.mkL s.now))) (by kernel_rfl) HRa.out.o.rl ⟨wd.heap.size, 0, none⟩ 1 1 [.int .i64 (x / 32), .int .i64 (x % 32 / 8), .int .i64 (x % 8), .int .i64 0, .int .i64 s.now] (by kernel_rfl) rfl (J.news_at HKa.out) (by simp [Value.oneCell']) (by unfold maxLen; omega) (by omega) HSa.out ?_)
    intro v3 w3 hown3 hgrow3
    obtain ⟨a3, c3, rfl⟩ := zd9 hown3
    obtain ⟨hR4, hF4, d3x, f3x⟩ := J.rd_l HRa.out (J.mkL s.now x) hown3 hgrow3 HSa.out
    have hne : some b ≠ (Value.slice a1 k c1).ownBlock := fun e => by have h1 := (HRa.out.o.rl.lt b e.symm).1; have h2 := HRa.out.b; omega
    have RS3 : (fun w' => ∃ v : Value, Blok w' b 153 #[.int .i64 s.d.b, .int .i64 s.d.k, .int .i64 s.d.c, .int .i64 s.d.j, .int .i64 s.d.lo, .int .i64 s.d.hi, .int .i64 s.d.dy, .int .i64 s.d.bl, .int .i64 s.p.q, .int .i64 s.p.i, .int .i64 s.p.h, .bool s.p.pair, .int .i64 s.now, .slice ap np cp, v, .slice ah nh ch, .slice (some ⟨gn, 0, none⟩) nn cn]) w3 := ⟨_, HRa.out.k.grown hgrow3 hne⟩
    refine ⟨RS3, ?_⟩
    refine Zq 21 b 0 RS3 ?_
    refine Zq 22 b 0 RS3 ?_
    refine Zq 23 b 14 RS3 ?_
    have RS1 : (fun w' => ∃ v : Value, Blok w' b 153 #[.int .i64 s.d.b, .int .i64 s.d.k, .int .i64 s.d.c, .int .i64 s.d.j, .int .i64 s.d.lo, .int .i64 s.d.hi, .int .i64 s.d.dy, .int .i64 s.d.bl, .int .i64 s.p.q, .int .i64 s.p.i, .int .i64 s.p.h, .bool s.p.pair, .int .i64 s.now, .slice ap np cp, v, .slice ah nh ch, .slice (some ⟨gn, 0, none⟩) nn cn]) (w3.setCell ⟨b, 14, none⟩ (.slice a3 (k + 1) c3)) := ⟨_, hR4.k⟩
    refine zaf (i := 24) (by kernel_rfl) (zah (w' := w3.setCell ⟨b, 14, none⟩ (.slice a3 (k + 1) c3)) rfl (by kernel_rfl) (by go_simp) ⟨RS1, ?_⟩)
    refine wpAnyH_done (by kernel_rfl) ?_ _
    simp only [List.getElem_toArray, List.getElem_cons_succ, List.getElem_cons_zero, zc7, ztx, List.setIfInBounds_toArray, List.set_cons_succ, List.set_cons_zero]
    have HR7 : Hid (J.Rd (w3.setCell ⟨b, 14, none⟩ (.slice a3 (k + 1) c3)) b H { s with l := (S.take (k + 1)).map (J.mkL s.now) } ⟨ap, np, cp, a3, k + 1, c3, ah, nh, ch⟩ (some ⟨gn, 0, none⟩) nn cn N) := Zh (by rw [List.take_add_one, HX.out, Option.toList_some, List.map_append]; exact hR4)
    have HF7 := Zh (HFa.out.trans hF4)
    have HS7 := Zh (Nat.le_trans HSa.out hF4.size)
    have HO7 : Hid ((w3.setCell ⟨b, 14, none⟩ (.slice a3 (k + 1) c3)).ownsRow H 3 1 (.slice (some ⟨g2, 0, none⟩) q c2) q (S.map (Value.int .i64))) := Zh ((HOa.out.kept hgrow3 (J.apart HOa.out HRa.out.o.rl (by decide))).kept (zf6 w3 b 14 _) (.inr fun e => by have h1 := (HOa.out.lt b e).1; have h2 := HRa.out.b; omega))
    obtain ⟨w9, hw9⟩ : ∃ V, w3.setCell ⟨b, 14, none⟩ (.slice a3 (k + 1) c3) = V := ⟨_, rfl⟩
    rw [hw9] at HR7 HF7 HS7 HO7 ⊢
    clear hw9 hR4 hF4 d3x f3x hown3 hgrow3 dd da hne
    go_wp2
    go_roundw
    case rel => exact ⟨k + 1, a3, c3, by simp, by omega, HR7, HO7, HF7, HS7⟩
    case measure => simp [intOf]; omega
   ·skip
    refine zam (v := .slice (some ⟨wd.heap.size, 0, none⟩) 1 1) (w' := wa) rfl (by kernel_rfl) (by rw [<- hwa]; kernel_rfl) ⟨RSa, ?_⟩
    refine zaf (i := 5) (by kernel_rfl) (zam (v := .slice a1 k c1) (w' := wa) rfl (by kernel_rfl) (by go_simp) ⟨RSa, ?_⟩)
    refine zaf (i := 20) (by kernel_rfl) (znd rfl (by kernel_rfl) _ _ 34 (by rfl) H 104 i0 (.agg #[.int .i64 0, .int .i64 0, .int .i64 0, .int .i64 0, .int .i64 0]) 5 40 Tryz.underlying34 hi hz0 hz1 hz2 rfl (by decide) (.slice a1 k c1) k (L.flat ((S.take k).map (J.mkL s.now))) (by kernel_rfl) HRa.out.o.rl ⟨wd.heap.size, 0, none⟩ 1 1 [.int .i64 (x / 32), .int .i64 (x % 32 / 8), .int .i64 (x % 8), .int .i64 0, .int .i64 s.now] (by kernel_rfl) rfl (J.news_at HKa.out) (by simp [Value.oneCell']) (by unfold maxLen; omega) (by omega) HSa.out ?_)
    intro v3 w3 hown3 hgrow3
    obtain ⟨a3, c3, rfl⟩ := zd9 hown3
    obtain ⟨hR4, hF4, d3x, f3x⟩ := J.rd_l HRa.out (J.mkL s.now x) hown3 hgrow3 HSa.out
    have hne : some b ≠ (Value.slice a1 k c1).ownBlock := fun e => by have h1 := (HRa.out.o.rl.lt b e.symm).1; have h2 := HRa.out.b; omega
    have RS3 : (fun w' => ∃ v : Value, Blok w' b 153 #[.int .i64 s.d.b, .int .i64 s.d.k, .int .i64 s.d.c, .int .i64 s.d.j, .int .i64 s.d.lo, .int .i64 s.d.hi, .int .i64 s.d.dy, .int .i64 s.d.bl, .int .i64 s.p.q, .int .i64 s.p.i, .int .i64 s.p.h, .bool s.p.pair, .int .i64 s.now, .slice ap np cp, v, .slice ah nh ch, .slice (some ⟨gn, 0, none⟩) nn cn]) w3 := ⟨_, HRa.out.k.grown hgrow3 hne⟩
    refine ⟨RS3, ?_⟩
    refine Zq 21 b 0 RS3 ?_
    refine Zq 22 b 0 RS3 ?_
    refine Zq 23 b 14 RS3 ?_
    have RS1 : (fun w' => ∃ v : Value, Blok w' b 153 #[.int .i64 s.d.b, .int .i64 s.d.k, .int .i64 s.d.c, .int .i64 s.d.j, .int .i64 s.d.lo, .int .i64 s.d.hi, .int .i64 s.d.dy, .int .i64 s.d.bl, .int .i64 s.p.q, .int .i64 s.p.i, .int .i64 s.p.h, .bool s.p.pair, .int .i64 s.now, .slice ap np cp, v, .slice ah nh ch, .slice (some ⟨gn, 0, none⟩) nn cn]) (w3.setCell ⟨b, 14, none⟩ (.slice a3 (k + 1) c3)) := ⟨_, hR4.k⟩
    refine zaf (i := 24) (by kernel_rfl) (zah (w' := w3.setCell ⟨b, 14, none⟩ (.slice a3 (k + 1) c3)) rfl (by kernel_rfl) (by go_simp) ⟨RS1, ?_⟩)
    refine wpAnyH_done (by kernel_rfl) ?_ _
    simp only [List.getElem_toArray, List.getElem_cons_succ, List.getElem_cons_zero, zc7, ztx, List.setIfInBounds_toArray, List.set_cons_succ, List.set_cons_zero]
    have HR7 : Hid (J.Rd (w3.setCell ⟨b, 14, none⟩ (.slice a3 (k + 1) c3)) b H { s with l := (S.take (k + 1)).map (J.mkL s.now) } ⟨ap, np, cp, a3, k + 1, c3, ah, nh, ch⟩ (some ⟨gn, 0, none⟩) nn cn N) := Zh (by rw [List.take_add_one, HX.out, Option.toList_some, List.map_append]; exact hR4)
    have HF7 := Zh (HFa.out.trans hF4)
    have HS7 := Zh (Nat.le_trans HSa.out hF4.size)
    have HO7 : Hid ((w3.setCell ⟨b, 14, none⟩ (.slice a3 (k + 1) c3)).ownsRow H 3 1 (.slice (some ⟨g2, 0, none⟩) q c2) q (S.map (Value.int .i64))) := Zh ((HOa.out.kept hgrow3 (J.apart HOa.out HRa.out.o.rl (by decide))).kept (zf6 w3 b 14 _) (.inr fun e => by have h1 := (HOa.out.lt b e).1; have h2 := HRa.out.b; omega))
    obtain ⟨w9, hw9⟩ : ∃ V, w3.setCell ⟨b, 14, none⟩ (.slice a3 (k + 1) c3) = V := ⟨_, rfl⟩
    rw [hw9] at HR7 HF7 HS7 HO7 ⊢
    clear hw9 hR4 hF4 d3x f3x hown3 hgrow3 dd da hne
    go_wp2
    go_roundw
    case rel => exact ⟨k + 1, a3, c3, by simp, by omega, HR7, HO7, HF7, HS7⟩
    case measure => simp [intOf]; omega
  ·have d3 : decide ((k : Int) < q) = false := by simp; omega
   obtain rfl : q = k := by omega
   go_wp2
   go_ret
   refine ⟨_, ⟨ap, np, cp, a1, q, c1, ah, nh, ch⟩, rfl, HOK.out, ?_, ⟨rfl, rfl, rfl, rfl⟩, hSl, HFr.out⟩
   rw [HSS.out]
   have h1 := HRr.out
   rw [List.take_of_length_le (by rw [HQ.out]; exact Nat.le_refl _)] at h1
   exact Zh h1
theorem zq1 (b H : Nat) (s : Y.St) (A : Y.A9) (an : Option Addr) (nn cn : Nat) (N : List Int) (n : Nat) (hn : N[14]? = some (n : Int)) (hnn : 15 <= nn) (hs0 : s.h = []) (pa : Option Addr) (pl pc : Nat) (P : List Int) (w : World) (hl : P.length = pl) (hR : zfv .u8 w pa pc P) (h : J.Rd w b H s A an nn cn N) (hH : H <= w.heap.size) :
  Calls Tryz.prog 116 #[.pointer (some ⟨b, 0, none⟩), .slice pa pl pc] w fun r w' => ∃ (v : Bool) (A' : Y.A9), r = .returned (.bool v) /\ v = (K.unpack P n 5).isSome /\ Hid (J.Rd w' b H { s with h := ((K.unpack P n 5).getD []).map (J.mkH) } A' an nn cn N) /\ (A'.ap = A.ap /\ A'.np = A.np /\ A'.nl = A.nl /\ A'.cp = A.cp) /\ A'.nh <= 400 /\ J.Far b H w w' := by
 obtain ⟨i0, hi, hz0, hz1, hz2⟩ := zbh
 obtain ⟨ap, np, cp, al, nl, cl, ah, nh, ch⟩ := A
 have HR := Zh h
 have HP := Zh hR
 have HL := Zh hl
 have HH := Zh hH
 obtain ⟨gn, rfl⟩ : ∃ gn, an = some ⟨gn, 0, none⟩ := by
  obtain ⟨q', cp, e⟩ := J.row_some h.n (by omega)
  simp only [Value.slice.injEq] at e; exact ⟨q', e.1⟩
 have c16 := Zv h.k 16 (.slice (some ⟨gn, 0, none⟩) nn cn)
 have cN : w.cell? ⟨gn, 14, none⟩ = some (.int .i64 n) := by
  rw [h.n.cellAt 14 (by omega)]
  simp [hn]
 have i1 : (14 : Int) < nn := by omega
 have hl0 : s.h.length = nh := h.o.nh
 rw [hs0] at hl0
 have hm0 : nh = 0 := hl0.symm
 clear h hR hl hH hn hl0
 go_enter Tryz.func116, Tryz.ntmps116
 go_wp2_with fail
 refine (zo4 pa pl pc P n 5 _ HL.out HP.out).mono ?_
 rintro e w1 ⟨v, ok, rfl, hok, hrow, hb⟩
 obtain ⟨a2, c2, rfl⟩ := zm9 hrow
 have HR1 := Zh (HR.out.below hb)
 have HF1 : Hid (J.Far b H w w1) := Zh (J.Far.of_below hb HH.out)
 have HS1 := Zh (Nat.le_trans HH.out hb.size)
 have HBD := Zh (fun l (hl : K.unpack P n 5 = some l) => J.unpack_bd (w := 5) HP.out.2.1 hl)
 obtain ⟨S, hS⟩ : ∃ S, (K.unpack P n 5).getD [] = S := ⟨_, rfl⟩
 have hbd : ∀ x ∈ S, 0 <= x /\ x < 2 ^ 5 := by
  cases hz : K.unpack P n 5 with
  | none => rw [hz] at hS; subst hS; intro x hx; cases hx
  | some l => rw [hz] at hS; obtain rfl : l = S := hS; exact (HBD.out _ hz).1
 have hSl : S.length <= 400 := by
  cases hz : K.unpack P n 5 with
  | none => rw [hz] at hS; subst hS; simp
  | some l => rw [hz] at hS; obtain rfl : l = S := hS; exact (K.pack_some.1 (HBD.out _ hz).2.2).1
 rw [hS] at hrow ⊢
 have HO := Zh hrow
 have HOK := Zh hok
 have HSS := Zh hS
 have HBS := Zh hbd
 clear hb hrow hok hS hbd c16 cN
 obtain ⟨q, hq⟩ : ∃ q, S.length = q := ⟨_, rfl⟩
 rw [hq] at HO hSl ⊢
 have HQ := Zh hq
 clear hq
 go_wp2_with fail
 go_loopw [22] (fun i wr => ∃ (k : Nat) (a1 : Option Addr) (c1 : Nat), i = .int .i64 k /\ k <= q /\ Hid (J.Rd wr b H { s with h := (S.take k).map (J.mkH) } ⟨ap, np, cp, al, nl, cl, a1, k, c1⟩ (some ⟨gn, 0, none⟩) nn cn N) /\ Hid (wr.ownsRow H 3 1 (.slice a2 q c2) q (S.map (Value.int .i64))) /\ Hid (J.Far b H w wr) /\ Hid (H <= wr.heap.size)) (fun i _ => q - (intOf i).toNat)
 case atStart => exact ⟨0, ah, ch, rfl, by omega, by subst hm0; rw [List.take_zero, List.map_nil, <- hs0]; exact HR1, Zh (zde HO.out HH.out), HF1, HS1⟩
 case round =>
  obtain ⟨k, a1, c1, rfl, hkm, HRr, HOr, HFr, HSr⟩ := hrel
  by_cases hlt : k < q
  ·have d3 : decide ((k : Int) < q) = true := by simp; omega
   obtain ⟨g2, rfl⟩ : ∃ g2, a2 = some ⟨g2, 0, none⟩ := by
    obtain ⟨q', cp, e⟩ := J.row_some HOr.out (by omega)
    simp only [Value.slice.injEq] at e; exact ⟨q', e.1⟩
   have hk : k < S.length := by rw [HQ.out]; exact hlt
   obtain ⟨x, hx⟩ : ∃ x, S[k]? = some x := ⟨_, List.getElem?_eq_getElem hk⟩
   have cS : wr.cell? ⟨g2, k, none⟩ = some (.int .i64 x) := by
    rw [HOr.out.cellAt k (by omega), List.getElem?_map, hx]
    rfl
   have hxb := HBS.out x (List.mem_of_getElem? hx)
   have t1 : x.tdiv 32 = x / 32 := Int.tdiv_eq_ediv_of_nonneg hxb.1
   have t2 : x.tmod 32 = x % 32 := Int.tmod_eq_emod_of_nonneg hxb.1
   have t3 : (x % 32).tdiv 8 = x % 32 / 8 := Int.tdiv_eq_ediv_of_nonneg (by omega)
   have t4 : x.tmod 8 = x % 8 := Int.tmod_eq_emod_of_nonneg hxb.1
   have t5 : x.tdiv 8 = x / 8 := Int.tdiv_eq_ediv_of_nonneg hxb.1
   have t6 : IntKind.i64.wrap (x / 32) = x / 32 := by rw [IntKind.wrap_i64]; omega
   have t7 : IntKind.i64.wrap (x % 32 / 8) = x % 32 / 8 := by rw [IntKind.wrap_i64]; omega
   have t8 : IntKind.i64.wrap (x / 8) = x / 8 := by rw [IntKind.wrap_i64]; omega
   have HX := Zh hx
   have j0 : (0 : Int) <= k := by omega
   have j1 : (k : Int) < q := by omega
   clear hx hk
   have hba : Below wr.heap.size wr (wr.alloc (.cells #[.int .i64 (x / 8), .int .i64 (x % 8), .int .i64 0] 135)) := (Below.refl _ wr).alloc (Nat.le_refl _) _
   have HRa := Zh (HRr.out.below hba)
   have HFa := Zh (HFr.out.trans (J.Far.of_below hba HSr.out))
   have HSa := Zh (Nat.le_trans HSr.out hba.size)
   have HOa := Zh (zab HOr.out hba)
   have HKa := Zh (Blok.new wr 135 #[.int .i64 (x / 8), .int .i64 (x % 8), .int .i64 0])
   clear hba
   have dr := Zv HRr.out.k 15 (.slice a1 k c1)
   go_wp2_with (at_builtin; refine wpList_append_own _ rfl _ _ 35 rfl H 135 i0 (.agg #[.int .i64 0, .int .i64 0, .int .i64 0]) 3 24 Tryz.underlying35 hi hz0 hz1 hz2 rfl (by decide) (.slice a1 k c1) k (L.flat ((S.take k).map (J.mkH))) rfl HRa.out.o.rh ⟨wr.heap.size, 0, none⟩ 1 1 [.int .i64 (x / 8), .int .i64 (x % 8), .int .i64 0] rfl rfl (J.news_at HKa.out) (by simp [Value.oneCell']) (by unfold maxLen; omega) (by omega) HSa.out ?_; intro v3 w3 hown3 hgrow3 _; obtain ⟨a3, c3, rfl⟩ := zd9 hown3; obtain ⟨hR4, hF4, d3x, f3x⟩ := J.rd_h HRa.out (J.mkH x) hown3 hgrow3 HSa.out)
   have HR7 : Hid (J.Rd (w3.setCell ⟨b, 15, none⟩ (.slice a3 (k + 1) c3)) b H { s with h := (S.take (k + 1)).map (J.mkH) } ⟨ap, np, cp, al, nl, cl, a3, k + 1, c3⟩ (some ⟨gn, 0, none⟩) nn cn N) := Zh (by rw [List.take_add_one, HX.out, Option.toList_some, List.map_append]; exact hR4)
   have HF7 := Zh (HFa.out.trans hF4)
   have HS7 := Zh (Nat.le_trans HSa.out hF4.size)
   have HO7 : Hid ((w3.setCell ⟨b, 15, none⟩ (.slice a3 (k + 1) c3)).ownsRow H 3 1 (.slice (some ⟨g2, 0, none⟩) q c2) q (S.map (Value.int .i64))) := Zh ((HOa.out.kept hgrow3 (J.apart HOa.out HRa.out.o.rh (by decide))).kept (zf6 w3 b 15 _) (.inr fun e => by have h1 := (HOa.out.lt b e).1; have h2 := HRa.out.b; omega))
   go_roundw
   case rel => exact ⟨k + 1, a3, c3, by simp, by omega, HR7, HO7, HF7, HS7⟩
   case measure => simp [intOf]; omega
  ·have d3 : decide ((k : Int) < q) = false := by simp; omega
   obtain rfl : q = k := by omega
   go_wp2
   go_ret
   refine ⟨_, ⟨ap, np, cp, al, nl, cl, a1, q, c1⟩, rfl, HOK.out, ?_, ⟨rfl, rfl, rfl, rfl⟩, hSl, HFr.out⟩
   rw [HSS.out]
   have h1 := HRr.out
   rw [List.take_of_length_le (by rw [HQ.out]; exact Nat.le_refl _)] at h1
   exact Zh h1
end Go.Proofs.YtnbkkjcmblfhpaaGreat
namespace Go.Proofs.YtnbkkjcmblfhpaaGreat
open Go.RowKit
namespace J
def In (w W : World) (B : List Int) (k : Nat) : Prop :=
 ∃ (st : Y.St) (A : Y.A9) (an : Option Addr) (nn cn : Nat) (N : List Int), Rd W (w.heap.size + 1) (w.heap.size + 3) st A an nn cn N /\ Kst k st N /\ (∀ s, put s = some B -> Agr k s st N) /\ Blok W w.heap.size 37 #[.int .i64 0, .int .i64 0, .int .i64 0, .int .i64 0, .int .i64 0, .int .i64 0, .int .i64 0, .int .i64 0, .int .i64 0, .int .i64 0, .int .i64 0, .bool false, .int .i64 0, .slice none 0 0, .slice none 0 0, .slice none 0 0] /\ Below w.heap.size w W /\ w.heap.size + 3 <= W.heap.size
theorem own_nc {w w' : World} {B k n : Nat} {t : TypeId} {v : Value} {xs : List Value} {row : Option Nat} (h : w.ownsRow B t k v n xs) (hg : w.grownBy w' row) (hr : ∀ r, row = some r -> ∃ o : Obj, w.heap[r]? = some o /\ o.isCells = false) : w'.ownsRow B t k v n xs := by
 refine h.kept hg ?_
 cases hv : v.ownBlock with
 | none => exact .inl rfl
 | some j =>
  refine .inr fun e => ?_
  obtain ⟨o, ho, hno⟩ := hr j e.symm
  have := row_cells h hv ho
  rw [hno] at this; cases this
theorem blok_nc {w w' : World} {g : Nat} {t : TypeId} {cs : Array Value} {row : Option Nat} (h : Blok w g t cs) (hg : w.grownBy w' row) (hr : ∀ r, row = some r -> ∃ o : Obj, w.heap[r]? = some o /\ o.isCells = false) : Blok w' g t cs :=
 h.grown hg (fun e => by
  obtain ⟨o, ho, hno⟩ := hr g e.symm
  rw [show w.heap[g]? = _ from h] at ho; cases ho; cases hno)
theorem Rd.nc {X Z : World} {b H nn cn : Nat} {st : Y.St} {A : Y.A9} {an : Option Addr} {N : List Int} {row : Option Nat} (r : Rd X b H st A an nn cn N) (hg : X.grownBy Z row) (hr : ∀ r, row = some r -> ∃ o : Obj, X.heap[r]? = some o /\ o.isCells = false) : Rd Z b H st A an nn cn N :=
 ⟨blok_nc r.k hg hr, ⟨own_nc r.o.rp hg hr, own_nc r.o.rl hg hr, own_nc r.o.rh hg hr, r.o.np, r.o.nl, r.o.nh⟩, own_nc r.n hg hr, r.b⟩
theorem In.grown {w X Y : World} {B : List Int} {k : Nat} {row : Option Nat} (h : In w X B k) (hg : X.grownBy Y row) (hr : ∀ r, row = some r -> w.heap.size <= r /\ ∃ o : Obj, X.heap[r]? = some o /\ o.isCells = false) : In w Y B k := by
 obtain ⟨st, A, an, nn, cn, N, r, h1, h2, h3, h4, h5⟩ := h
 have hr' := fun r e => (hr r e).2
 exact ⟨st, A, an, nn, cn, N, r.nc hg hr', h1, h2, blok_nc h3 hg hr', h4.grown hg h4.size (fun r e => (hr r e).1), Nat.le_trans h5 hg.size⟩
theorem Far.kp {M : Nat} {W W' : World} (h : Far (M + 1) (M + 3) W W') : Kp M (M + 2) W W' := ⟨⟨h.os, h.tape, h.output, h.size, fun k hk => h.block k (by omega) (by omega)⟩, h.block _ (by omega) (by omega)⟩
theorem In.next {w W W' : World} {B : List Int} {k : Nat} (h3 : Blok W w.heap.size 37 #[.int .i64 0, .int .i64 0, .int .i64 0, .int .i64 0, .int .i64 0, .int .i64 0, .int .i64 0, .int .i64 0, .int .i64 0, .int .i64 0, .int .i64 0, .bool false, .int .i64 0, .slice none 0 0, .slice none 0 0, .slice none 0 0]) (h4 : Below w.heap.size w W) (h5 : w.heap.size + 3 <= W.heap.size) (hf : Far (w.heap.size + 1) (w.heap.size + 3) W W') {st : Y.St} {A : Y.A9} {an : Option Addr} {nn cn : Nat} {N : List Int} (r : Rd W' (w.heap.size + 1) (w.heap.size + 3) st A an nn cn N) (hk : Kst k st N) (ha : ∀ s, put s = some B -> Agr k s st N) : In w W' B k :=
 ⟨st, A, an, nn, cn, N, r, hk, ha, (hf.block _ (by omega) (by omega)).trans h3, h4.trans hf.kp.1, Nat.le_trans h5 hf.size⟩
theorem tells_at {s : Y.St} {pre : List PK} {P : List Int} {T : List (List Int)} {i : Nat} (h : parts s = pre.map (fun y => y.2.2.2) ++ P :: T) (hi : pre.length = i) : (parts s)[i]? = some P := by
 rw [h, <- hi, List.getElem?_append_right (by simp)]
 simp
def Out (w : World) (B : List Int) (W : World) : Prop := (∃ k, In w W B k) /\ ∀ s, put s ≠ some B
end J
theorem ztc (w W : World) (B : List Int) (pre : List J.PK) (x : J.PK) (hi : J.In w W B pre.length) (hT : J.Tells w B pre x) (hl : pre.length = 0) (hr0 : J.Rd W (w.heap.size + 1) (w.heap.size + 3) J.s00 Y.a0 none 0 0 []) :
  Calls Tryz.prog 113 #[.pointer (some ⟨w.heap.size + 1, 0, none⟩), .slice x.2.1 x.2.2.2.length x.2.2.1] W fun r W' => ∃ v, r = .returned (.bool v) /\ J.Far (w.heap.size + 1) (w.heap.size + 3) W W' /\ (v = true -> J.In w W' B 1) /\ (v = false -> J.Out w B W') := by
 obtain ⟨st, A, an, nn, cn, N, r, hk, ha, h3, h4, h5⟩ := hi
 rw [hl] at hk ha
 have hx := hT.2.1.belowN (Nat.le_refl _) h4
 have hat : ∀ s, J.put s = some B -> (J.parts s)[0]? = some x.2.2.2 := fun s hs => by
  obtain ⟨T, hT⟩ := hT.2.2.2.2 s hs
  exact J.tells_at hT hl
 have hP : ∀ s, J.put s = some B -> J.ok s /\ x.2.2.2 = (J.pt1 s).getD [] := fun s hs => ⟨(J.zc7.1 hs).1, (Option.some.inj (hat s hs)).symm⟩
 obtain rfl := hk.z rfl
 refine (zpt _ _ _ _ _ _ W rfl hx hr0 h5).mono ?_
 rintro e W' ⟨v, s', A', an', nn', cn', N', rfl, hr, hf, ⟨hl0, hh0, hv0⟩, hv, hw⟩
 refine ⟨v, rfl, hf, fun hv1 => ?_, fun hv1 => ?_⟩
 ·obtain ⟨e1, e2, e3, rfl⟩ := hv hv1
  have hn := hr.out.len
  exact J.In.next h3 h4 h5 hf hr.out (J.step0 e3 (by omega) (by omega)) (fun s hs => by
   have := (hw s (hP s hs).1 (hP s hs).2).2
   rw [this]; exact J.agr0)
 ·have hno : ∀ s, J.put s ≠ some B := fun s hs => by have := (hw s (hP s hs).1 (hP s hs).2).1; rw [hv1] at this; cases this
  obtain rfl := hv0 hv1
  exact ⟨⟨0, J.In.next h3 h4 h5 hf hr.out ⟨fun _ => rfl, fun h => by omega, fun _ => rfl, fun _ => rfl, J.Kst.start.f⟩ (fun s hs => absurd hs (hno s))⟩, hno⟩
theorem ztd (w W : World) (B : List Int) (pre : List J.PK) (x : J.PK) (hi : J.In w W B pre.length) (hT : J.Tells w B pre x) (hl : pre.length = 1) :
  Calls Tryz.prog 114 #[.pointer (some ⟨w.heap.size + 1, 0, none⟩), .slice x.2.1 x.2.2.2.length x.2.2.1] W fun r W' => ∃ v, r = .returned (.bool v) /\ J.Far (w.heap.size + 1) (w.heap.size + 3) W W' /\ (v = true -> J.In w W' B 2) /\ (v = false -> J.Out w B W') := by
 obtain ⟨st, A, an, nn, cn, N, r, hk, ha, h3, h4, h5⟩ := hi
 rw [hl] at hk ha
 have hx := hT.2.1.belowN (Nat.le_refl _) h4
 have hat : ∀ s, J.put s = some B -> (J.parts s)[1]? = some x.2.2.2 := fun s hs => by
  obtain ⟨T, hT⟩ := hT.2.2.2.2 s hs
  exact J.tells_at hT hl
 have hP : ∀ s, J.put s = some B -> J.ok s /\ x.2.2.2 = (J.pt2 s).getD [] := fun s hs => ⟨(J.zc7.1 hs).1, (Option.some.inj (hat s hs)).symm⟩
 obtain ⟨n, hn, hn'⟩ := hk.at13 (by omega) (show 13 < 15 by omega)
 have hnl := r.len
 have h15 := (hk.n (by omega)).1
 refine (zqd _ _ st A an nn cn N n hn (by omega) (hk.l0 (by omega)) _ _ _ _ W rfl hx r h5).mono ?_
 rintro e W' ⟨v, A', rfl, hv, hr, _, hm, hf⟩
 have hlen : (((K.unpack x.2.2.2 n 10).getD []).map (J.mkL st.now)).length <= 400 := by
  have := hr.out.o.nl
  dsimp only at this
  omega
 have hst := hk.l hlen
 refine ⟨v, rfl, hf, fun hv1 => J.In.next h3 h4 h5 hf hr.out hst (fun s hs => (J.agr1 (ha s hs) (hP s hs).1 (by rw [(hk.n (Nat.le_refl _)).2.2.2.2.1]; rfl) (hP s hs).2 hn').2), fun hv1 => ?_⟩
 have hno : ∀ s, J.put s ≠ some B := fun s hs => by have := (J.agr1 (ha s hs) (hP s hs).1 (by rw [(hk.n (Nat.le_refl _)).2.2.2.2.1]; rfl) (hP s hs).2 hn').1; rw [<- hv, hv1] at this; cases this
 exact ⟨⟨2, J.In.next h3 h4 h5 hf hr.out hst (fun s hs => absurd hs (hno s))⟩, hno⟩
theorem zte (w W : World) (B : List Int) (pre : List J.PK) (x : J.PK) (hi : J.In w W B pre.length) (hT : J.Tells w B pre x) (hl : pre.length = 2) :
  Calls Tryz.prog 115 #[.pointer (some ⟨w.heap.size + 1, 0, none⟩), .slice x.2.1 x.2.2.2.length x.2.2.1] W fun r W' => ∃ v, r = .returned (.bool v) /\ J.Far (w.heap.size + 1) (w.heap.size + 3) W W' /\ (v = true -> J.In w W' B 3) /\ (v = false -> J.Out w B W') := by
 obtain ⟨st, A, an, nn, cn, N, r, hk, ha, h3, h4, h5⟩ := hi
 rw [hl] at hk ha
 have hx := hT.2.1.belowN (Nat.le_refl _) h4
 have hat : ∀ s, J.put s = some B -> (J.parts s)[2]? = some x.2.2.2 := fun s hs => by
  obtain ⟨T, hT⟩ := hT.2.2.2.2 s hs
  exact J.tells_at hT hl
 have hP : ∀ s, J.put s = some B -> J.ok s /\ x.2.2.2 = (J.pt3 s).getD [] := fun s hs => ⟨(J.zc7.1 hs).1, (Option.some.inj (hat s hs)).symm⟩
 have hm : A.nl <= 1000 := by rw [<- r.o.nl]; have := hk.f; omega
 refine (zqz _ _ st A an nn cn N _ _ _ _ W rfl hx r h5 hm).mono ?_
 rintro e W' ⟨v, rfl, hr, hf, hw⟩
 cases v with
 | true =>
  refine ⟨true, rfl, hf, fun _ => ?_, fun h => by cases h⟩
  have hr1 := hr.out
  rw [if_pos rfl] at hr1
  refine J.In.next h3 h4 h5 hf hr1 (hk.l' (J.fm_len _ _ _)) (fun s hs => ?_)
  obtain ⟨e1, _, e3⟩ := J.agr2 (ha s hs) (hP s hs).1 (hP s hs).2
  rw [e1]; exact e3
 | false =>
  refine ⟨false, rfl, hf, (fun h => by cases h), fun _ => ?_⟩
  have hr1 := hr.out
  rw [if_neg (by simp)] at hr1
  have hno : ∀ s, J.put s ≠ some B := fun s hs => by
   obtain ⟨e1, e2, _⟩ := J.agr2 (ha s hs) (hP s hs).1 (hP s hs).2
   have := hw _ e1 e2; cases this
  exact ⟨⟨2, J.In.next h3 h4 h5 hf hr1 hk (fun s hs => absurd hs (hno s))⟩, hno⟩
theorem ztf (w W : World) (B : List Int) (pre : List J.PK) (x : J.PK) (hi : J.In w W B pre.length) (hT : J.Tells w B pre x) (hl : pre.length = 3) :
  Calls Tryz.prog 116 #[.pointer (some ⟨w.heap.size + 1, 0, none⟩), .slice x.2.1 x.2.2.2.length x.2.2.1] W fun r W' => ∃ v, r = .returned (.bool v) /\ J.Far (w.heap.size + 1) (w.heap.size + 3) W W' /\ (v = true -> J.In w W' B 4) /\ (v = false -> J.Out w B W') := by
 obtain ⟨st, A, an, nn, cn, N, r, hk, ha, h3, h4, h5⟩ := hi
 rw [hl] at hk ha
 have hx := hT.2.1.belowN (Nat.le_refl _) h4
 have hat : ∀ s, J.put s = some B -> (J.parts s)[3]? = some x.2.2.2 := fun s hs => by
  obtain ⟨T, hT⟩ := hT.2.2.2.2 s hs
  exact J.tells_at hT hl
 have hP : ∀ s, J.put s = some B -> J.ok s /\ x.2.2.2 = (J.pt4 s).getD [] := fun s hs => ⟨(J.zc7.1 hs).1, (Option.some.inj (hat s hs)).symm⟩
 obtain ⟨n, hn, hn'⟩ := hk.at13 (by omega) (show 14 < 15 by omega)
 have hnl := r.len
 have h15 := (hk.n (by omega)).1
 refine (zq1 _ _ st A an nn cn N n hn (by omega) (hk.h0 (by omega)) _ _ _ _ W rfl hx r h5).mono ?_
 rintro e W' ⟨v, A', rfl, hv, hr, _, hm, hf⟩
 have hlen : (((K.unpack x.2.2.2 n 5).getD []).map J.mkH).length <= 400 := by
  have := hr.out.o.nh
  dsimp only at this
  omega
 have hst := hk.h hlen
 refine ⟨v, rfl, hf, fun hv1 => J.In.next h3 h4 h5 hf hr.out hst (fun s hs => (J.agr3 (ha s hs) (hP s hs).1 (hP s hs).2 hn').2), fun hv1 => ?_⟩
 have hno : ∀ s, J.put s ≠ some B := fun s hs => by have := (J.agr3 (ha s hs) (hP s hs).1 (hP s hs).2 hn').1; rw [<- hv, hv1] at this; cases this
 exact ⟨⟨4, J.In.next h3 h4 h5 hf hr.out hst (fun s hs => absurd hs (hno s))⟩, hno⟩
theorem ztg (w W : World) (B : List Int) (pre : List J.PK) (x : J.PK) (hi : J.In w W B pre.length) (hT : J.Tells w B pre x) (hl : pre.length = 4) :
  Calls Tryz.prog 117 #[.pointer (some ⟨w.heap.size + 1, 0, none⟩), .slice x.2.1 x.2.2.2.length x.2.2.1] W fun r W' => ∃ v, r = .returned (.bool v) /\ J.Far (w.heap.size + 1) (w.heap.size + 3) W W' /\ (v = true -> J.In w W' B 5) /\ (v = false -> J.Out w B W') := by
 obtain ⟨st, A, an, nn, cn, N, r, hk, ha, h3, h4, h5⟩ := hi
 rw [hl] at hk ha
 have hx := hT.2.1.belowN (Nat.le_refl _) h4
 have hat : ∀ s, J.put s = some B -> (J.parts s)[4]? = some x.2.2.2 := fun s hs => by
  obtain ⟨T, hT⟩ := hT.2.2.2.2 s hs
  exact J.tells_at hT hl
 have hP : ∀ s, J.put s = some B -> J.ok s /\ x.2.2.2 = (J.pt5 s).getD [] := fun s hs => ⟨(J.zc7.1 hs).1, (Option.some.inj (hat s hs)).symm⟩
 have hm : A.nh <= 1000 := by rw [<- r.o.nh]; have := hk.f; omega
 refine (zq0 _ _ st A an nn cn N _ _ _ _ W rfl hx r h5 hm).mono ?_
 rintro e W' ⟨v, rfl, hr, hf, hw⟩
 cases v with
 | true =>
  refine ⟨true, rfl, hf, fun _ => ?_, fun h => by cases h⟩
  have hr1 := hr.out
  rw [if_pos rfl] at hr1
  refine J.In.next h3 h4 h5 hf hr1 (hk.h' (J.hm_len _ _ _)) (fun s hs => ?_)
  obtain ⟨e1, _, e3⟩ := J.agr4 (ha s hs) (hP s hs).1 (hP s hs).2
  rw [e1]; exact e3
 | false =>
  refine ⟨false, rfl, hf, (fun h => by cases h), fun _ => ?_⟩
  have hr1 := hr.out
  rw [if_neg (by simp)] at hr1
  have hno : ∀ s, J.put s ≠ some B := fun s hs => by
   obtain ⟨e1, e2, _⟩ := J.agr4 (ha s hs) (hP s hs).1 (hP s hs).2
   have := hw _ e1 e2; cases this
  exact ⟨⟨4, J.In.next h3 h4 h5 hf hr1 hk (fun s hs => absurd hs (hno s))⟩, hno⟩
theorem zoq {n : Nat} {P : Program} {c : Code} {Q : Exit -> Act -> World -> Prop} {a : Act} {w : World} (h : c.wpIn Fence.wide n P (Exit.noGoto Q) a w) : (Code.scope c).wpIn Fence.wide n P Q a w := wpIn_wide.2 (wp_scope_straight (wpIn_wide.1 h))
theorem J.got0 (w : World) (H : Nat) : J.Got w H J.s00 Y.a0 := ⟨⟨QIn.nil w, RIn.nil w, RIn.nil w⟩, ⟨(fun q hq => by cases hq), (fun q hq => by cases hq), (fun q hq => by cases hq)⟩⟩
def J.Keeps (w : World) (B : List Int) (pre : List J.PK) (W : World) : Prop := J.In w W B pre.length /\ (pre.length = 0 -> J.Rd W (w.heap.size + 1) (w.heap.size + 3) J.s00 Y.a0 none 0 0 [])
theorem J.keeps_own (w : World) (B : List Int) (C : Nat) (hC : w.heap.size <= C) : OwnFrom C (J.Keeps w B) := fun pre X Y row h hg hr =>
 ⟨h.1.grown hg (fun r e => ⟨by have := (hr r e).1; omega, (hr r e).2⟩), fun h0 => (h.2 h0).nc hg (fun r e => (hr r e).2)⟩
theorem J.out_own (w : World) (B : List Int) (C : Nat) (hC : w.heap.size <= C) (c : Code) : OwnFrom C (fun (_ : List J.PK) W => c = .exit 0 /\ J.Out w B W) := fun pre X Y row h hg hr => by
 obtain ⟨hc, ⟨k, hk⟩, hn⟩ := h
 exact ⟨hc, ⟨k, hk.grown hg (fun r e => ⟨by have := (hr r e).1; omega, (hr r e).2⟩)⟩, hn⟩
end Go.Proofs.YtnbkkjcmblfhpaaGreat
namespace Go.Proofs.YtnbkkjcmblfhpaaGreat
open Go.RowKit
def zso {α : Type} (F : Fence) (n : Nat) (P : Program) (g : Nat) (lb : Array Value) (encs : α -> Array Value) (G : Nat -> α -> World -> World -> Prop) (Kp : Nat -> World -> World -> Prop) (S : List α -> Prop) (N : Nat) (w : World) : Prop :=
 ∀ (l : Nat) (J : Nat -> List α -> World -> Prop) (W : World), Below w.heap.size w W -> (∀ z, AbidesFrom W.heap.size (J z)) ->
  (∀ z pre x V0 V, J z pre V0 -> Below V0.heap.size V0 V -> G z x V0 V -> pre.length < N -> YieldAt F (n - 1) P l (encs x) V fun e V' => e = .returned (.bool true) /\ J z (pre ++ [x]) V' /\ Kp z V V') ->
  (∀ z, W.heap.size <= z -> J z [] W) -> CallsIn F n P g (#[.func (.yield l) #[] #[]] ++ lb) W fun e V => (∃ v, e = .returned v) /\ ∃ z xs, S xs /\ J z xs V
def zow (D : Nat) (r : LoopState -> Loop) (st : LoopState) (W : World) : Prop := W.heap[D + 1]? = some (.loop (r st)) /\ W.heap[D]? = some (.deferred (some []))
theorem zow.from {D : Nat} {r : LoopState -> Loop} {st : LoopState} {W W' : World} (h : zow D r st W) (hk : KeepsFrom D W W') : zow D r st W' := ⟨hk.same _ _ (by omega) h.1 rfl, hk.same _ _ (Nat.le_refl _) h.2 rfl⟩
theorem zow.turn {D : Nat} {r : LoopState -> Loop} {st : LoopState} {W : World} (h : zow D r st W) (st' : LoopState) : zow D r st' (W.putObj (D + 1) (.loop (r st'))) :=
 ⟨World.putObj_heap_same (Array.getElem?_eq_some_iff.1 h.1).1, (World.putObj_heap_other (by omega)).trans h.2⟩
theorem zox {F : Fence} {n : Nat} {P : Program} {α : Type} {g : Operand} {ps : Array Tmp} {assign body : Code} {Q : Exit -> Act -> World -> Prop} {a : Act} {w : World}
  (hro : F.round = none) (h1 : 1 <= n) {gf : Nat} {lb : Array Value} (hg : a.eval g = .func (.func gf) #[] lb) (hFg : F.fn gf) (eg : ∀ args w, (callFunc gf args).run P w = .ok (.enter gf args) w)
  {encs : α -> Array Value} {G : Nat -> α -> World -> World -> Prop} {Kp : Nat -> World -> World -> Prop} {S : List α -> Prop} {N : Nat} {w0 : World} (hseq : zso F (n - 1) P gf lb encs G Kp S N w0) (hb0 : Below w0.heap.size w0 w) (hps : ∀ x, (encs x).size = ps.size)
  (hKt : ∀ {z : Nat} {X Y Z : World}, Kp z X Y -> Kp z Y Z -> Kp z X Z) (hKb : ∀ (z : Nat) (W : World) (l : Nat) (o o' : Obj), w.heap.size <= l -> W.heap[l]? = some o -> o.isCells = false -> o.isWalk = false -> Kp z W (W.putObj l o'))
  (I : Nat -> List α -> World -> Prop) (hI : ∀ z, OwnFrom w.heap.size (I z)) (h0 : ∀ z, w.heap.size <= z -> I z [] w) (A : Nat -> List α × α × Act -> World -> Prop) (hA : ∀ z, OwnFrom w.heap.size (A z))
  (hassign : ∀ (z l : Nat) (pre : List α) (x : α) (V0 W : World) (K : Act -> World -> Prop), I z pre V0 -> Below V0.heap.size V0 W -> G z x V0 W -> (∀ a' W', KeepsFrom w.heap.size W W' -> Kp z W W' -> A z (pre, x, a') W' -> K a' W') ->
   assign.wpIn (F.inRound l) (n - 1 - 1) P (Exit.then K (fun _ _ _ => False)) { tmps := (ps.zip (encs x)).foldl (fun t (p, v) => t.setIfInBounds p v) a.tmps, defers := [] } W)
  (hbody : ∀ (z l : Nat) (pre : List α) (x : α) (a' : Act) (W : World), A z (pre, x, a') W -> pre.length < N ->
   body.wpIn (F.inRound l) (n - 1 - 1) P (fun e _ W' => e = .normal /\ KeepsFrom w.heap.size W W' /\ Kp z W W' /\ I z (pre ++ [x]) W') a' W)
  (hdone : ∀ (z D : Nat) (xs : List α) (W : World), w.heap.size <= D -> S xs -> I z xs W -> W.heap[D]? = some (.deferred (some [])) -> Q .normal { a with defers := { target := .collected D, args := #[] } :: a.defers } W) :
  (Code.rangeFunc g ps assign body).wpIn F n P Q a w := by
 refine wpIn_rangeFunc fun fn hfn => ?_
 rw [hro]
 obtain ⟨D, hD⟩ : ∃ D, D = w.heap.size := ⟨_, rfl⟩
 obtain ⟨r, hr⟩ : ∃ r : LoopState -> Loop, r = fun st => { state := st, pending := none, fn, tmps := a.tmps, params := ps, assign, body, defers := D } := ⟨_, rfl⟩
 have hkept : zow D r .ready ((w.alloc (.deferred (some []))).alloc (.loop (r .ready))) := by
  have e1 := World.alloc_heap_new (w.alloc (.deferred (some []))) (.loop (r .ready))
  have e2 := World.alloc_heap_new w (.deferred (some []))
  rw [World.size_alloc, <- hD] at e1
  rw [<- hD] at e2
  exact ⟨e1, (Below.heap_alloc _ _ _ (by simp; omega)).trans e2⟩
 have hbel : Below w.heap.size w ((w.alloc (.deferred (some []))).alloc (.loop (r .ready))) := ((Below.refl _ w).alloc (Nat.le_refl _) _).alloc (by simp) _
 have hinv : ∀ z, w.heap.size <= z -> I z [] ((w.alloc (.deferred (some []))).alloc (.loop (r .ready))) := fun z hz => (hI z).alloc _ ((hI z).alloc _ (h0 z hz))
 have hent : (Instr.enterLoop fn a.tmps ps assign body none).run P w = .ok (D + 1, [{ target := .collected D, args := #[] }]) ((w.alloc (.deferred (some []))).alloc (.loop (r .ready))) := by
  rw [hr, hD]; exact run_enterLoop_outer _ _ _ _ _
 have hsz : w.heap.size <= ((w.alloc (.deferred (some []))).alloc (.loop (r .ready))).heap.size /\ D + 1 < ((w.alloc (.deferred (some []))).alloc (.loop (r .ready))).heap.size := by simp; omega
 generalize (w.alloc (.deferred (some []))).alloc (.loop (r .ready)) = W1 at hkept hbel hinv hent hsz
 -- what abides the caller's invariant abides with the book-keeping beside it
 have hab : ∀ z, AbidesFrom W1.heap.size (fun pre W => I z pre W /\ zow D r .ready W) := fun z s X Y row hs hgr hrow => by
  have hw := fun k e => (hrow k e).2
  exact ⟨hI z s X Y row hs.1 hgr (fun k e => ⟨by have := (hrow k e).1; omega, by obtain ⟨o, ho, hoo⟩ := hw k e; exact ⟨o, ho, Obj.not_cells_of_walk hoo⟩⟩),
   (grownBy_keeps hgr hw hs.2.1 rfl).trans hs.2.1, (grownBy_keeps hgr hw hs.2.2 rfl).trans hs.2.2⟩
 refine ⟨D + 1, _, W1, { target := .fn (.func gf) lb, args := #[.func (.yield (D + 1)) #[] #[]] }, W1, gf, #[.func (.yield (D + 1)) #[] #[]] ++ lb, W1, hent, ?_, ?_, ?_, fun _ => h1, ?_⟩
 ·simp only [resolve, hg]
  simp [go_sem]
 ·intro f' hf'
  simp [Target.leads] at hf'
  exact hf' ▸ hFg
 ·simp [invoke, go_sem, eg]
 ·refine (hseq (D + 1) (fun z pre W => I z pre W /\ zow D r .ready W) W1 (hb0.trans (hbel.mono hb0.size)) hab ?_ (fun z hz => ⟨hinv z (by omega), hkept⟩)).mono ?_
  ·rintro z pre x V0 V ⟨hi, hk0⟩ hV hG hlen
   have hk : zow D r .ready V := ⟨(hV.block _ (Array.getElem?_eq_some_iff.1 hk0.1).1).trans hk0.1, (hV.block _ (Array.getElem?_eq_some_iff.1 hk0.2).1).trans hk0.2⟩
   have hy := run_yield (P := P) (args := encs x) hk.1 (by rw [hr]; exact hps x)
   rw [hr] at hy
   refine ⟨fn, _, assign, body, hy, roundIn_of_wpIn hfn (hassign z _ pre x V0 V _ hi hV hG fun a' V' hkf hkp hA' => ?_)⟩
   have hk1 := hk.from (hD ▸ hkf)
   have hlt := (Array.getElem?_eq_some_iff.1 hk1.1).1
   refine ⟨V'.putObj (D + 1) (.loop (r .busy)), by have := run_beginRound (P := P) hk1.1 (by rw [hr]); rw [hr] at this ⊢; exact this, ?_⟩
   have hk2 := hk1.turn .busy
   refine wpIn_mono (hbody z _ pre x a' _ ((hA z).putObj _ hA' (by omega) hk1.1 rfl) hlen) ?_
   rintro e a3 V3 ⟨rfl, hkf3, hkp3, hi3⟩
   have hk3 := hk2.from (show KeepsFrom D _ V3 by have h := hkf3; rwa [<- hD] at h)
   refine ⟨.bool true, V3.putObj (D + 1) (.loop (r .ready)), by have := run_endRound (P := P) none hk3.1; rw [hr] at this ⊢; exact this, rfl, ⟨(hI z).putObj _ hi3 (by omega) hk3.1 rfl, hk3.turn .ready⟩, ?_⟩
   exact hKt hkp (hKt (hKt (hKb z _ _ _ _ (by omega) hk1.1 rfl rfl) hkp3) (hKb z _ _ _ _ (by omega) hk3.1 rfl rfl))
  ·rintro e V ⟨⟨v, rfl⟩, z, xs, hS, hi, hk⟩
   refine ⟨none, _, by have := run_endLoop (P := P) hk.1 (by rw [hr]; simp); rw [hr] at this; exact this, ?_⟩
   exact hdone z D xs _ (by omega) hS ((hI z).putObj _ hi (by omega) hk.1 rfl) ((World.putObj_heap_other (by omega)).trans hk.2)
end Go.Proofs.YtnbkkjcmblfhpaaGreat
namespace Go.Proofs.YtnbkkjcmblfhpaaGreat
set_option maxHeartbeats 400000
set_option maxRecDepth 100000
open Go.RowKit
namespace J
open Y
abbrev Part := Option Addr × Nat × List Int
abbrev encP (x : Part) : Array Value := #[.slice x.1 x.2.2.length x.2.1]
def Fresh (H' z : Nat) (x : Part) (V0 V : World) : Prop := zfv .u8 V x.1 x.2.1 x.2.2 /\ (x.1 = none -> x.2.2.length = 0 /\ x.2.1 = 0) /\ (∀ q, x.1 = some q -> V0.heap.size <= q.block) /\ H' <= z /\ z < V0.heap.size /\ x.2.2.length <= 400
def KpT (H Bn z : Nat) (W W' : World) : Prop := Below H W W' /\ W'.heap[Bn]? = W.heap[Bn]? /\ ∀ cs t f, W.heap[z]? = some (.cells cs t f) -> W'.heap[z]? = some (.cells cs t f)
theorem KpT.t {H Bn z : Nat} {X Y Z : World} (h : KpT H Bn z X Y) (k : KpT H Bn z Y Z) : KpT H Bn z X Z := ⟨h.1.trans k.1, k.2.1.trans h.2.1, fun cs t f hc => k.2.2 cs t f (h.2.2 cs t f hc)⟩
theorem part_of {w : World} {H e : Nat} {v : Value} {b : List Int} (h : w.ownsRow H e 1 v b.length (b.map (Value.int .u8))) (hw : ∀ c ∈ b, (Lit.int .u8 c).wf = true) :
  ∃ a c, v = .slice a b.length c /\ zfv .u8 w a c b /\ (a = none -> b.length = 0 /\ c = 0) /\ ∀ q, a = some q -> H <= q.block := by
 obtain ⟨a, c, rfl, _, hr⟩ := zex h hw
 refine ⟨a, c, rfl, hr, fun ha => ?_, fun q hq => (h.lt q.block (by rw [hq]; rfl)).1⟩
 subst ha
 rcases h.2 with ⟨h0, h1⟩ | ⟨g, cap, cur, h0, _⟩
 ·simp only [Value.slice.injEq] at h0; exact ⟨h1, h0.2.2⟩
 ·cases h0
theorem below_grownN {w w' : World} (h : Below w.heap.size w w') : w.grownBy w' none := ⟨h.os, h.tape, h.output, h.size, fun k hk _ => h.block k hk⟩
end J
theorem zpu {n m : Nat} {P : Program} {l : Nat} {f : FuncId} {tmps : Array Value} {assign body : Code} {w : World} {R : Ending -> World -> Prop} (h : RoundIn Fence.wide n P l f tmps assign body w R) : RoundIn Fence.wide m P l f tmps assign body w R := ⟨h.1, fun c cs _ => h.2 c cs (room_wide _)⟩
theorem zog {n m : Nat} {P : Program} {l : Nat} {args : Array Value} {w : World} {R : Ending -> World -> Prop} (h : YieldAt Fence.wide n P l args w R) : YieldAt Fence.wide m P l args w R := by
 obtain ⟨fn, tmps, assign, body, h1, h2⟩ := h
 exact ⟨fn, tmps, assign, body, h1, zpu h2⟩
theorem znt (l Bz : Nat) (a : Option Addr) (n c : Nat) (V : World) (hz : Blok V Bz 157 #[.func (.yield l) #[] #[]]) (R : World -> Prop) (hy : YieldAt Fence.wide 0 Tryz.prog l #[.slice a n c] V fun e V' => e = .returned (.bool true) /\ R V') :
  Calls Tryz.prog 152 #[.slice a n c, .bool true, .pointer (some ⟨Bz, 0, none⟩)] V fun e V' => e = .returned (.bool true) /\ R V' := by
 refine (callsIn_wide (n := 5)).1 ?_
 have hf1 : Fence.wide.fn 152 := trivial
 have hro : Fence.wide.round = none := rfl
 obtain ⟨fn, tmps, assign, body, hy, hR⟩ := zog (m := 5 - 1) hy
 have z0 := Zv hz 0 (.func (.yield l) #[] #[])
 refine callsIn_of_wp Tryz.func152 rfl hf1 ?_ hro
 simp only [Tryz.ntmps152, List.size_toArray, List.length_cons, List.length_nil, Nat.reduceAdd, Nat.reduceSub, Array.replicate_succ, Array.replicate_zero, List.push_toArray, List.append_toArray, List.nil_append, List.cons_append]
 gi_wp2
 refine hR.mono ?_
 rintro e V' ⟨rfl, hr⟩
 gi_wp2
 go_ret
 exact ⟨rfl, hr⟩
end Go.Proofs.YtnbkkjcmblfhpaaGreat
namespace Go.Proofs.YtnbkkjcmblfhpaaGreat
set_option maxHeartbeats 400000
set_option maxRecDepth 100000
open Go.RowKit
theorem zqe (x : L.Ls) (hx : (0 <= x.s /\ x.s < 32) /\ (0 <= x.a /\ x.a < 4) /\ (0 <= x.b /\ x.b < 8)) (w : World) : Calls Tryz.prog 156 #[L.val x] w fun e w' => e = .returned (.int .i64 (J.lN x)) /\ Below w.heap.size w w' := by
 obtain ⟨w1, hw1, hb, hk⟩ := Zn w 104 #[.int .i64 x.s, .int .i64 x.a, .int .i64 x.b, .int .i64 x.f, .int .i64 x.t]
 have HB1 := Zh hb
 have HK := Zh hk
 have c0 := Zv hk 0 (.int .i64 x.s)
 have c1 := Zv hk 1 (.int .i64 x.a)
 have c2 := Zv hk 2 (.int .i64 x.b)
 have c3 := Zv hk 3 (.int .i64 x.f)
 have c4 := Zv hk 4 (.int .i64 x.t)
 clear hb hk
 have z1 : wrap64 (x.s * 32) = x.s * 32 := IntWalk.wrap64_in _ ⟨by omega, by omega⟩
 have z2 : wrap64 (x.a * 8) = x.a * 8 := IntWalk.wrap64_in _ ⟨by omega, by omega⟩
 have z3 : wrap64 (x.s * 32 + x.a * 8) = x.s * 32 + x.a * 8 := IntWalk.wrap64_in _ ⟨by omega, by omega⟩
 have z4 : wrap64 (x.s * 32 + x.a * 8 + x.b) = x.s * 32 + x.a * 8 + x.b := IntWalk.wrap64_in _ ⟨by omega, by omega⟩
 clear hx
 unfold J.lN
 unfold L.val
 go_enter Tryz.func156, Tryz.ntmps156
 go_wp2_with fail
 try rw [hw1]
 go_ret
 exact ⟨by show Ending.returned (.int .i64 (wrap64 _)) = _; rw [z4], HB1.out⟩
theorem zrx (x : L.T3) (hx : (0 <= x.a /\ x.a < 4) /\ (0 <= x.b /\ x.b < 8)) (w : World) : Calls Tryz.prog 160 #[L.val3 x] w fun e w' => e = .returned (.int .i64 (J.hN x)) /\ Below w.heap.size w w' := by
 obtain ⟨w1, hw1, hb, hk⟩ := Zn w 135 #[.int .i64 x.a, .int .i64 x.b, .int .i64 x.x]
 have HB1 := Zh hb
 have HK := Zh hk
 have c0 := Zv hk 0 (.int .i64 x.a)
 have c1 := Zv hk 1 (.int .i64 x.b)
 have c2 := Zv hk 2 (.int .i64 x.x)
 clear hb hk
 have z2 : wrap64 (x.a * 8) = x.a * 8 := IntWalk.wrap64_in _ ⟨by omega, by omega⟩
 have z4 : wrap64 (x.a * 8 + x.b) = x.a * 8 + x.b := IntWalk.wrap64_in _ ⟨by omega, by omega⟩
 clear hx
 unfold J.hN
 unfold L.val3
 go_enter Tryz.func160, Tryz.ntmps160
 go_wp2_with fail
 try rw [hw1]
 go_ret
 exact ⟨by show Ending.returned (.int .i64 (wrap64 _)) = _; rw [z4], HB1.out⟩
theorem zry (x : L.Ls) (w : World) : Calls Tryz.prog 158 #[L.val x] w fun e w' => e = .returned (.int .i64 (L.Ls.f x)) /\ Below w.heap.size w w' := by
 obtain ⟨w1, hw1, hb, hk⟩ := Zn w 104 #[.int .i64 x.s, .int .i64 x.a, .int .i64 x.b, .int .i64 x.f, .int .i64 x.t]
 have HB1 := Zh hb
 have HK := Zh hk
 have c0 := Zv hk 0 (.int .i64 x.s)
 have c1 := Zv hk 1 (.int .i64 x.a)
 have c2 := Zv hk 2 (.int .i64 x.b)
 have c3 := Zv hk 3 (.int .i64 x.f)
 have c4 := Zv hk 4 (.int .i64 x.t)
 clear hb hk
 unfold L.val
 go_enter Tryz.func158, Tryz.ntmps158
 go_wp2_with fail
 try rw [hw1]
 go_ret
 exact ⟨rfl, HB1.out⟩
theorem zrz (x : L.T3) (w : World) : Calls Tryz.prog 161 #[L.val3 x] w fun e w' => e = .returned (.int .i64 (L.T3.x x)) /\ Below w.heap.size w w' := by
 obtain ⟨w1, hw1, hb, hk⟩ := Zn w 135 #[.int .i64 x.a, .int .i64 x.b, .int .i64 x.x]
 have HB1 := Zh hb
 have HK := Zh hk
 have c0 := Zv hk 0 (.int .i64 x.a)
 have c1 := Zv hk 1 (.int .i64 x.b)
 have c2 := Zv hk 2 (.int .i64 x.x)
 clear hb hk
 unfold L.val3
 go_enter Tryz.func161, Tryz.ntmps161
 go_wp2_with fail
 try rw [hw1]
 go_ret
 exact ⟨rfl, HB1.out⟩
theorem zpv (F : Nat) (hcf : ∀ (az : Array Value) (W : World), Sem.run Tryz.prog (callFunc F az) W = .ok (.enter F az) W) (f : L.Ls -> Int) (a : Option Addr) (n c : Nat) (l : List L.Ls) (hc : ∀ x ∈ l, ∀ W, Calls Tryz.prog F #[L.val x] W fun e w' => e = .returned (.int .i64 (f x)) /\ Below W.heap.size W w') (hw : ∀ x ∈ l, (Lit.int .i64 (f x)).wf = true) (w : World) (h : RIn w a n c l) (hn : n <= 1000) :
  Calls Tryz.prog 155 #[.slice a n c, .func (.func F) #[] #[]] w fun e w' => ∃ a2 c2, e = .returned (.slice a2 n c2) /\ Hid (zfv .i64 w' a2 c2 (l.map f)) /\ Below w.heap.size w w' := by
 obtain ⟨i0, hi, hz0, hz1, hz2⟩ := info_parts zl3
 have HT := Zh h
 have hln := h.1
 have HC := Zh hc
 have HWF := Zh hw
 clear h hc hw
 go_enter Tryz.func155, Tryz.ntmps155
 go_wp2_with fail
 go_loopw [5, 10] (fun v i wr => ∃ (k : Nat) (a1 : Option Addr) (c1 : Nat), v = .slice a1 k c1 /\ i = .int .i64 k /\ k <= n /\ Hid (wr.ownsRow w.heap.size 3 1 (.slice a1 k c1) k (((l.take k).map f).map (Value.int .i64))) /\ Hid (Below w.heap.size w wr)) (fun _ i _ => n - (intOf i).toNat)
 case atStart => exact ⟨0, none, 0, rfl, rfl, by omega, Zh (World.ownsRow_nil _ _ _ _), Zh (Below.refl _ _)⟩
 case round =>
  obtain ⟨i, a1, c1, rfl, rfl, hin, HR, HB⟩ := hrel
  by_cases hlt : i < n
  ·have d1 : decide ((i : Int) < n) = true := by simp; omega
   obtain ⟨b, off, x, rfl, hb, hx, p0, p1, p2, p3, p4⟩ := (HT.out.below HB.out).at5 hlt
   have k0 : (0 : Int) <= i := by omega
   have k1 : (i : Int) < n := by omega
   have HX := Zh hx
   have hxm := List.mem_of_getElem? hx
   have hcx := HC.out x hxm
   have hsz := HB.out.size
   clear hx
   unfold L.val at hcx
   obtain ⟨w3, hw3, hb3, hk3⟩ := Zn wr 104 #[.int .i64 x.s, .int .i64 x.a, .int .i64 x.b, .int .i64 x.f, .int .i64 x.t]
   have HB3 := Zt HB hb3
   have HR3 := Zh (zab HR.out hb3)
   have c10 := Zv hk3 0 (.int .i64 x.s)
   have c11 := Zv hk3 1 (.int .i64 x.a)
   have c12 := Zv hk3 2 (.int .i64 x.b)
   have c13 := Zv hk3 3 (.int .i64 x.f)
   have c14 := Zv hk3 4 (.int .i64 x.t)
   clear hb3 hk3
   go_wp2_with fail
   refine (hcx w3).mono ?_
   rintro e w4 ⟨rfl, hb4⟩
   have HB4 := Zt HB3 hb4
   have HR4 := Zh (zab HR3.out hb4)
   have hsz4 := HB4.out.size
   clear hb4 c10 c11 c12 c13 c14 p0 p1 p2 p3 p4 hw3
   go_wp2_with (at_builtin; refine wpList_append_own _ rfl _ _ 74 rfl w.heap.size 3 i0 (.int .i64 0) 1 8 Tryz.underlying74 hi hz0 hz1 hz2 rfl (by decide) _ _ _ rfl (HR4.out.alloc _) ⟨w4.heap.size, 0, none⟩ 1 1 [.int .i64 (f x)] rfl rfl (cell_one_new _ _ _) (by simp [Value.oneCell']) (by unfold maxLen; omega) (by omega) (by simp; omega) ?_; intro v' w5 hown' hgrow _; obtain ⟨g', cap', rfl⟩ := ownsRow_succ hown')
   have HB5 : Hid (Below w.heap.size w w5) := Zh (zng HR4.out hsz4 HB4.out hgrow)
   have HR5 : Hid (w5.ownsRow w.heap.size 3 1 (.slice (some ⟨g', 0, none⟩) (i + 1) cap') (i + 1) (((l.take (i + 1)).map f).map (Value.int .i64))) := Zh (by
    rw [List.take_add_one, HX.out]
    simpa using hown')
   clear hown' hgrow
   go_roundw
   case rel => exact ⟨i + 1, some ⟨g', 0, none⟩, cap', rfl, by simp, by omega, HR5, HB5⟩
   case measure => simp [intOf]; omega
  ·have d1 : decide ((i : Int) < n) = false := by simp; omega
   go_wp2
   go_ret
   have hR := HR.out
   obtain rfl : i = n := by omega
   rw [List.take_of_length_le (by omega)] at hR
   exact ⟨a1, c1, rfl, Zh (zn3 hR (fun y hy => by
    obtain ⟨x, hx, rfl⟩ := List.mem_map.1 hy
    exact HWF.out x hx)), HB.out⟩
theorem zpw (F : Nat) (hcf : ∀ (az : Array Value) (W : World), Sem.run Tryz.prog (callFunc F az) W = .ok (.enter F az) W) (f : L.T3 -> Int) (a : Option Addr) (n c : Nat) (l : List L.T3) (hc : ∀ x ∈ l, ∀ W, Calls Tryz.prog F #[L.val3 x] W fun e w' => e = .returned (.int .i64 (f x)) /\ Below W.heap.size W w') (hw : ∀ x ∈ l, (Lit.int .i64 (f x)).wf = true) (w : World) (h : RIn w a n c l) (hn : n <= 1000) :
  Calls Tryz.prog 159 #[.slice a n c, .func (.func F) #[] #[]] w fun e w' => ∃ a2 c2, e = .returned (.slice a2 n c2) /\ Hid (zfv .i64 w' a2 c2 (l.map f)) /\ Below w.heap.size w w' := by
 obtain ⟨i0, hi, hz0, hz1, hz2⟩ := info_parts zl3
 have HT := Zh h
 have hln := h.1
 have HC := Zh hc
 have HWF := Zh hw
 clear h hc hw
 go_enter Tryz.func159, Tryz.ntmps159
 go_wp2_with fail
 go_loopw [5, 10] (fun v i wr => ∃ (k : Nat) (a1 : Option Addr) (c1 : Nat), v = .slice a1 k c1 /\ i = .int .i64 k /\ k <= n /\ Hid (wr.ownsRow w.heap.size 3 1 (.slice a1 k c1) k (((l.take k).map f).map (Value.int .i64))) /\ Hid (Below w.heap.size w wr)) (fun _ i _ => n - (intOf i).toNat)
 case atStart => exact ⟨0, none, 0, rfl, rfl, by omega, Zh (World.ownsRow_nil _ _ _ _), Zh (Below.refl _ _)⟩
 case round =>
  obtain ⟨i, a1, c1, rfl, rfl, hin, HR, HB⟩ := hrel
  by_cases hlt : i < n
  ·have d1 : decide ((i : Int) < n) = true := by simp; omega
   obtain ⟨b, off, x, rfl, hb, hx, p0, p1, p2⟩ := (HT.out.below HB.out).at3 hlt
   have k0 : (0 : Int) <= i := by omega
   have k1 : (i : Int) < n := by omega
   have HX := Zh hx
   have hxm := List.mem_of_getElem? hx
   have hcx := HC.out x hxm
   have hsz := HB.out.size
   clear hx
   unfold L.val3 at hcx
   obtain ⟨w3, hw3, hb3, hk3⟩ := Zn wr 135 #[.int .i64 x.a, .int .i64 x.b, .int .i64 x.x]
   have HB3 := Zt HB hb3
   have HR3 := Zh (zab HR.out hb3)
   have c10 := Zv hk3 0 (.int .i64 x.a)
   have c11 := Zv hk3 1 (.int .i64 x.b)
   have c12 := Zv hk3 2 (.int .i64 x.x)
   clear hb3 hk3
   go_wp2_with fail
   refine (hcx w3).mono ?_
   rintro e w4 ⟨rfl, hb4⟩
   have HB4 := Zt HB3 hb4
   have HR4 := Zh (zab HR3.out hb4)
   have hsz4 := HB4.out.size
   clear hb4 c10 c11 c12 p0 p1 p2 hw3
   go_wp2_with (at_builtin; refine wpList_append_own _ rfl _ _ 74 rfl w.heap.size 3 i0 (.int .i64 0) 1 8 Tryz.underlying74 hi hz0 hz1 hz2 rfl (by decide) _ _ _ rfl (HR4.out.alloc _) ⟨w4.heap.size, 0, none⟩ 1 1 [.int .i64 (f x)] rfl rfl (cell_one_new _ _ _) (by simp [Value.oneCell']) (by unfold maxLen; omega) (by omega) (by simp; omega) ?_; intro v' w5 hown' hgrow _; obtain ⟨g', cap', rfl⟩ := ownsRow_succ hown')
   have HB5 : Hid (Below w.heap.size w w5) := Zh (zng HR4.out hsz4 HB4.out hgrow)
   have HR5 : Hid (w5.ownsRow w.heap.size 3 1 (.slice (some ⟨g', 0, none⟩) (i + 1) cap') (i + 1) (((l.take (i + 1)).map f).map (Value.int .i64))) := Zh (by
    rw [List.take_add_one, HX.out]
    simpa using hown')
   clear hown' hgrow
   go_roundw
   case rel => exact ⟨i + 1, some ⟨g', 0, none⟩, cap', rfl, by simp, by omega, HR5, HB5⟩
   case measure => simp [intOf]; omega
  ·have d1 : decide ((i : Int) < n) = false := by simp; omega
   go_wp2
   go_ret
   have hR := HR.out
   obtain rfl : i = n := by omega
   rw [List.take_of_length_le (by omega)] at hR
   exact ⟨a1, c1, rfl, Zh (zn3 hR (fun y hy => by
    obtain ⟨x, hx, rfl⟩ := List.mem_map.1 hy
    exact HWF.out x hx)), HB.out⟩
end Go.Proofs.YtnbkkjcmblfhpaaGreat
namespace Go.Proofs.YtnbkkjcmblfhpaaGreat
set_option maxHeartbeats 400000
set_option maxRecDepth 100000
open Go.RowKit
theorem zr0 (s : Y.St) (A : Y.A9) (hm : Y.May s) (w : World) (h : Y.SIn w A s) :
  Calls Tryz.prog 153 #[Y.val s A] w fun e w' => ∃ a c, e = .returned (.slice a (J.nums s).length c) /\ Hid (zfv .i64 w' a c (J.nums s)) /\ Below w.heap.size w w' := by
 obtain ⟨i0, hi, hz0, hz1, hz2⟩ := info_parts zl3
 obtain ⟨ap, np, cp, al, nl, cl, ah, nh, ch⟩ := A
 have hll : s.l.length = nl := h.l.1
 have hlh : s.h.length = nh := h.h.1
 have hlp : s.ps.length = np := h.p.1
 have hp3 := hm.2.2.1.2.2.1
 have HBD := Zh (J.nums_isn hm)
 have hbl := J.held_len hm
 have hbm := hm.2.2.2.2.1
 have HB0 := Zh (Below.refl w.heap.size w)
 have HI := Zh h
 clear h hm
 obtain ⟨pp, hpp⟩ : ∃ b, s.p.pair = b := ⟨_, rfl⟩
 have HPP := Zh hpp
 unfold Y.val
 obtain ⟨w1, hw1, hb, hk⟩ := Zn w 37 #[.int .i64 s.d.b, .int .i64 s.d.k, .int .i64 s.d.c, .int .i64 s.d.j, .int .i64 s.d.lo, .int .i64 s.d.hi, .int .i64 s.d.dy, .int .i64 s.d.bl, .int .i64 s.p.q, .int .i64 s.p.i, .int .i64 s.p.h, .bool s.p.pair, .int .i64 s.now, .slice ap np cp, .slice al nl cl, .slice ah nh ch]
 replace HB0 := Zt HB0 hb
 have KS1 := Zh hk
 clear hb hk
 obtain ⟨c0, c1, c2, c3, c4, c5, c6, c7, c8, c9, c10, c11, c12, c13, c14, c15⟩ := Y.cs16 KS1.out
 rw [hpp] at c11
 clear hpp
 go_enter Tryz.func153, Tryz.ntmps153
 obtain ⟨w2, hw2⟩ : ∃ W, w1.alloc (.cells #[.int .i64 s.d.b, .int .i64 s.d.k, .int .i64 s.d.c, .int .i64 s.d.j, .int .i64 s.d.lo, .int .i64 s.d.hi, .int .i64 s.d.dy, .int .i64 s.d.bl, .int .i64 s.p.q, .int .i64 s.p.i, .int .i64 s.p.h, .int .i64 0, .int .i64 s.now, .int .i64 nl, .int .i64 nh] 3) = W := ⟨_, rfl⟩
 have hb2 : Below w1.heap.size w1 w2 := by rw [<- hw2]; exact (Below.refl _ w1).alloc (Nat.le_refl _) _
 have KN2 : Hid (Blok w2 w1.heap.size 3 #[.int .i64 s.d.b, .int .i64 s.d.k, .int .i64 s.d.c, .int .i64 s.d.j, .int .i64 s.d.lo, .int .i64 s.d.hi, .int .i64 s.d.dy, .int .i64 s.d.bl, .int .i64 s.p.q, .int .i64 s.p.i, .int .i64 s.p.h, .int .i64 0, .int .i64 s.now, .int .i64 nl, .int .i64 nh]) := Zh (by rw [<- hw2]; exact Blok.new w1 _ _)
 replace KS1 := Zk KS1 hb2
 replace HB0 := Zt HB0 hb2
 have hw1s : w1.heap.size = w.heap.size + 1 := by rw [<- hw1]; simp
 have HI2 := Zh (HI.out.below HB0.out)
 clear hb2
 rw [hw1s] at KN2
 have n11 := KN2.out.cell 11
 have n11' : w2.cell? ⟨w.heap.size + 1, 11, none⟩ = some (.int .i64 0) := n11
 clear n11
 have f11 := KN2.out.frozen 11
 have k11 : w2.cell? ⟨w.heap.size, 11, none⟩ = some (.bool pp) := by rw [<- HPP.out]; exact KS1.out.cell 11
 have k13 := Zv KS1.out 13 (.slice ap np cp)
 obtain ⟨w3, hw3⟩ : ∃ W, w2.setCell ⟨w.heap.size + 1, 11, none⟩ (.int .i64 1) = W := ⟨_, rfl⟩
 have g3 : w2.grownBy w3 (some (w.heap.size + 1)) := by rw [<- hw3]; exact zf6 _ _ _ _
 have KN3 : Hid (Blok w3 (w.heap.size + 1) 3 #[.int .i64 s.d.b, .int .i64 s.d.k, .int .i64 s.d.c, .int .i64 s.d.j, .int .i64 s.d.lo, .int .i64 s.d.hi, .int .i64 s.d.dy, .int .i64 s.d.bl, .int .i64 s.p.q, .int .i64 s.p.i, .int .i64 s.p.h, .int .i64 1, .int .i64 s.now, .int .i64 nl, .int .i64 nh]) := Zh (by rw [<- hw3]; have := KN2.out.set 11 (.int .i64 1); simpa using this)
 have KS3 := Zh (KS1.out.grown g3 (by simp))
 have HB3 := Zh (HB0.out.grown g3 HB0.out.size (fun q hq => by cases hq; omega))
 have HI3 : Hid (Y.SIn w3 ⟨ap, np, cp, al, nl, cl, ah, nh, ch⟩ s) := Zh (HI.out.below HB3.out)
 have q13 : (w2.setCell ⟨w.heap.size + 1, 11, none⟩ (.int .i64 1)).cell? ⟨w.heap.size, 13, none⟩ = some (.slice ap np cp) := by rw [hw3]; exact KS3.out.cell 13
 have HW3 := Zh hw3
 clear g3 hw3
 have key : ∀ (W : World), Hid (Blok W (w.heap.size + 1) 3 ((J.nums15 s).map (Value.int .i64)).toArray) -> Hid (W.ownsRow w.heap.size 3 1 (.slice (some ⟨w.heap.size + 1, 0, none⟩) 15 15) 15 ((J.nums15 s).map (Value.int .i64))) := fun W hk => Zh (hk.out.own (by omega) rfl (by decide) (by decide) rfl)
 cases pp with
 | false =>
  go_wp2_with fail
  have KP2 : Hid (Blok w2 (w.heap.size + 1) 3 ((J.nums15 s).map (Value.int .i64)).toArray) := by
   have e : (J.nums15 s).map (Value.int .i64) = [.int .i64 s.d.b, .int .i64 s.d.k, .int .i64 s.d.c, .int .i64 s.d.j, .int .i64 s.d.lo, .int .i64 s.d.hi, .int .i64 s.d.dy, .int .i64 s.d.bl, .int .i64 s.p.q, .int .i64 s.p.i, .int .i64 s.p.h, .int .i64 0, .int .i64 s.now, .int .i64 nl, .int .i64 nh] := by unfold J.nums15 J.b1; rw [HPP.out, hll, hlh]; rfl
   rw [e]; exact KN2
  have HR := key _ KP2
  clear key q13 k11 k13 n11' f11 HW3 KN3 KS3 HB3 HI3 KN2
  go_loopw [3, 60] (fun v i wr => ∃ (k g1 c1 : Nat), v = .slice (some ⟨g1, 0, none⟩) (15 + 3 * k) c1 /\ i = .int .i64 k /\ k <= np /\ Hid (wr.ownsRow w.heap.size 3 1 (.slice (some ⟨g1, 0, none⟩) (15 + 3 * k) c1) (15 + 3 * k) ((J.nums15 s ++ J.plN (s.ps.take k)).map (Value.int .i64))) /\ Hid (Below w.heap.size w wr)) (fun _ i _ => np - (intOf i).toNat)
  case atStart => exact ⟨0, w.heap.size + 1, 15, rfl, rfl, by omega, by simpa [J.plN] using HR, HB0⟩
  case round =>
   obtain ⟨k, g1, c1, rfl, rfl, hkn, HRr, HBr⟩ := hrel
   have hbs := HBr.out.size
   by_cases hlt : k < np
   ·have d1 : decide ((k : Int) < np) = true := by simp; omega
    obtain ⟨bb, off, x, rfl, hxb, hx, p0, p1, p2⟩ := ((HI.out.p : QIn w ap np cp s.ps).below HBr.out).at hlt
    have i0' : (0 : Int) <= k := by omega
    have i1 : (k : Int) < np := by omega
    have HX := Zh hx
    clear hx
    obtain ⟨w5, hw5, hb5, hk5⟩ := Zn wr 170 #[.int .i64 x.f, .int .i64 x.n, .int .i64 x.s]
    have HB5 := Zt HBr hb5
    have HR5 := Zh (zab HRr.out hb5)
    have x0 := Zv hk5 0 (.int .i64 x.f)
    have x1 := Zv hk5 1 (.int .i64 x.n)
    have x2 := Zv hk5 2 (.int .i64 x.s)
    have hs5 := HB5.out.size
    clear hb5 hk5
    obtain ⟨w6, hw6, hb6, hk6⟩ := Zn w5 3 #[.int .i64 x.f, .int .i64 x.n, .int .i64 x.s]
    have HB6 := Zt HB5 hb6
    have HR6 := Zh (zab HR5.out hb6)
    have hs6 := HB6.out.size
    have K6 := Zh hk6
    clear hb6 hk6
    go_wp2_with (at_builtin; refine wpList_append_lies _ rfl _ _ 74 rfl w.heap.size 3 i0 (.int .i64 0) 1 8 Tryz.underlying74 hi hz0 hz1 hz2 rfl (by decide) _ _ _ rfl HR6.out ⟨w5.heap.size, 0, none⟩ 3 3 [.int .i64 x.f, .int .i64 x.n, .int .i64 x.s] rfl rfl (fun j u hj => J.news_at K6.out j u hj) (by simp [Value.oneCell']) (by decide) (by unfold maxLen; omega) (by omega) (by omega) _ rfl ?_; intro g2 cap2 w7 hown7 hgrow7 hat7 hlt7)
    have HB7 : Hid (Below w.heap.size w w7) := Zh (HB6.out.grown hgrow7 hs6 (fun q hq => (HR6.out.lt q hq).1))
    have HR7 : Hid (w7.ownsRow w.heap.size 3 1 (.slice (some ⟨g2, 0, none⟩) (15 + 3 * (k + 1)) cap2) (15 + 3 * (k + 1)) ((J.nums15 s ++ J.plN (s.ps.take (k + 1))).map (Value.int .i64))) := Zh (by
     have e : J.plN (s.ps.take (k + 1)) = J.plN (s.ps.take k) ++ [x.f, x.n, x.s] := by rw [List.take_add_one, HX.out]; exact J.plN_snoc _ _
     rw [e, <- List.append_assoc, List.map_append]; exact hown7)
    clear hown7 hgrow7 hat7 hlt7
    go_roundw
    case rel => exact ⟨k + 1, g2, cap2, rfl, by simp, by omega, HR7, HB7⟩
    case measure => simp [intOf]; omega
   ·have d1 : decide ((k : Int) < np) = false := by simp; omega
    obtain rfl : np = k := by omega
    go_wp2
    go_ret
    have hR := HRr.out
    rw [List.take_of_length_le (by omega)] at hR
    have e : (J.nums s).length = 15 + 3 * np := by rw [J.nums_len, hlp]
    rw [e]
    exact ⟨_, c1, rfl, Zh (zn3 hR (fun n hn => zqj (HBD.out n hn))), HBr.out⟩
 | true =>
  go_wp2_with fail
  rw [HW3.out]
  have KP3 : Hid (Blok w3 (w.heap.size + 1) 3 ((J.nums15 s).map (Value.int .i64)).toArray) := by
   have e : (J.nums15 s).map (Value.int .i64) = [.int .i64 s.d.b, .int .i64 s.d.k, .int .i64 s.d.c, .int .i64 s.d.j, .int .i64 s.d.lo, .int .i64 s.d.hi, .int .i64 s.d.dy, .int .i64 s.d.bl, .int .i64 s.p.q, .int .i64 s.p.i, .int .i64 s.p.h, .int .i64 1, .int .i64 s.now, .int .i64 nl, .int .i64 nh] := by unfold J.nums15 J.b1; rw [HPP.out, hll, hlh]; rfl
   rw [e]; exact KN3
  have HR := key _ KP3
  clear key q13 k11 k13 n11' f11 HW3  KN2 KN3 KS1 HB0 HI2
  go_loopw [3, 60] (fun v i wr => ∃ (k g1 c1 : Nat), v = .slice (some ⟨g1, 0, none⟩) (15 + 3 * k) c1 /\ i = .int .i64 k /\ k <= np /\ Hid (wr.ownsRow w.heap.size 3 1 (.slice (some ⟨g1, 0, none⟩) (15 + 3 * k) c1) (15 + 3 * k) ((J.nums15 s ++ J.plN (s.ps.take k)).map (Value.int .i64))) /\ Hid (Below w.heap.size w wr)) (fun _ i _ => np - (intOf i).toNat)
  case atStart => exact ⟨0, w.heap.size + 1, 15, rfl, rfl, by omega, by simpa [J.plN] using HR, HB3⟩
  case round =>
   obtain ⟨k, g1, c1, rfl, rfl, hkn, HRr, HBr⟩ := hrel
   have hbs := HBr.out.size
   by_cases hlt : k < np
   ·have d1 : decide ((k : Int) < np) = true := by simp; omega
    obtain ⟨bb, off, x, rfl, hxb, hx, p0, p1, p2⟩ := ((HI.out.p : QIn w ap np cp s.ps).below HBr.out).at hlt
    have i0' : (0 : Int) <= k := by omega
    have i1 : (k : Int) < np := by omega
    have HX := Zh hx
    clear hx
    obtain ⟨w5, hw5, hb5, hk5⟩ := Zn wr 170 #[.int .i64 x.f, .int .i64 x.n, .int .i64 x.s]
    have HB5 := Zt HBr hb5
    have HR5 := Zh (zab HRr.out hb5)
    have x0 := Zv hk5 0 (.int .i64 x.f)
    have x1 := Zv hk5 1 (.int .i64 x.n)
    have x2 := Zv hk5 2 (.int .i64 x.s)
    have hs5 := HB5.out.size
    clear hb5 hk5
    obtain ⟨w6, hw6, hb6, hk6⟩ := Zn w5 3 #[.int .i64 x.f, .int .i64 x.n, .int .i64 x.s]
    have HB6 := Zt HB5 hb6
    have HR6 := Zh (zab HR5.out hb6)
    have hs6 := HB6.out.size
    have K6 := Zh hk6
    clear hb6 hk6
    go_wp2_with (at_builtin; refine wpList_append_lies _ rfl _ _ 74 rfl w.heap.size 3 i0 (.int .i64 0) 1 8 Tryz.underlying74 hi hz0 hz1 hz2 rfl (by decide) _ _ _ rfl HR6.out ⟨w5.heap.size, 0, none⟩ 3 3 [.int .i64 x.f, .int .i64 x.n, .int .i64 x.s] rfl rfl (fun j u hj => J.news_at K6.out j u hj) (by simp [Value.oneCell']) (by decide) (by unfold maxLen; omega) (by omega) (by omega) _ rfl ?_; intro g2 cap2 w7 hown7 hgrow7 hat7 hlt7)
    have HB7 : Hid (Below w.heap.size w w7) := Zh (HB6.out.grown hgrow7 hs6 (fun q hq => (HR6.out.lt q hq).1))
    have HR7 : Hid (w7.ownsRow w.heap.size 3 1 (.slice (some ⟨g2, 0, none⟩) (15 + 3 * (k + 1)) cap2) (15 + 3 * (k + 1)) ((J.nums15 s ++ J.plN (s.ps.take (k + 1))).map (Value.int .i64))) := Zh (by
     have e : J.plN (s.ps.take (k + 1)) = J.plN (s.ps.take k) ++ [x.f, x.n, x.s] := by rw [List.take_add_one, HX.out]; exact J.plN_snoc _ _
     rw [e, <- List.append_assoc, List.map_append]; exact hown7)
    clear hown7 hgrow7 hat7 hlt7
    go_roundw
    case rel => exact ⟨k + 1, g2, cap2, rfl, by simp, by omega, HR7, HB7⟩
    case measure => simp [intOf]; omega
   ·have d1 : decide ((k : Int) < np) = false := by simp; omega
    obtain rfl : np = k := by omega
    go_wp2
    go_ret
    have hR := HRr.out
    rw [List.take_of_length_le (by omega)] at hR
    have e : (J.nums s).length = 15 + 3 * np := by rw [J.nums_len, hlp]
    rw [e]
    exact ⟨_, c1, rfl, Zh (zn3 hR (fun n hn => zqj (HBD.out n hn))), HBr.out⟩
end Go.Proofs.YtnbkkjcmblfhpaaGreat
