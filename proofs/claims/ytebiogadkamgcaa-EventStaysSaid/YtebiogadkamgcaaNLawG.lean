/-
  EventStays.
-/
import Derived.Test.YtebiogadkamgcaaNAwake
import Derived.Test.YtebiogadkamgcaaReg2
namespace Go.Proofs.Ytebiogadkamgcaa
open Go.RowKit
set_option maxRecDepth 100000 in
set_option maxHeartbeats 1000000 in
theorem EventStays_in (t : Int) (e : Y.Ev) (f : Int) (w : World) : Calls Try.prog 7 #[.int .i64 t, .agg (N.ecs e), .int .i64 f] w fun x w' => x = .returned (.bool true) ∧ Below w.heap.size w w' := by
  obtain ⟨w1, hw1, hb, hk⟩ := Zn w 34 #[.int .i64 e.k, .int .i64 e.t, .int .i64 e.a, .int .i64 e.b, .int .i64 e.c, .int .i64 e.p.q, .int .i64 e.p.i, .int .i64 e.p.h, .bool e.p.pair]
  have HB1 := Lib.hid hb
  have KE1 := Lib.hid hk
  clear hb hk
  unfold N.ecs
  go_enter Try.func7, Try.ntmps7
  go_wp2_with fail
  refine (nawake_any w1).mono ?_
  rintro e w2 ⟨rfl, hb⟩
  have HB2 := Zt HB1 hb
  have KE2 := Zk KE1 hb
  clear hb
  obtain ⟨w3, hw3, hb, hk⟩ := Zn w2 34 #[.int .i64 e.k, .int .i64 e.t, .int .i64 e.a, .int .i64 e.b, .int .i64 e.c, .int .i64 e.p.q, .int .i64 e.p.i, .int .i64 e.p.h, .bool e.p.pair]
  have HB3 := Zt HB2 hb
  have KE3 := Zk KE2 hb
  have HV3 : Hid (VIn w3 (some ⟨w2.heap.size, 0, none⟩) 1 1 [e]) := Lib.hid (vin_one e hk)
  clear hb hk hw1
  have v0 := Zv KE2.out 0 (.int .i64 e.k)
  have v1 := Zv KE2.out 1 (.int .i64 e.t)
  have v2 := Zv KE2.out 2 (.int .i64 e.a)
  have v3 := Zv KE2.out 3 (.int .i64 e.b)
  have v4 := Zv KE2.out 4 (.int .i64 e.c)
  have v5 := Zv KE2.out 5 (.int .i64 e.p.q)
  have v6 := Zv KE2.out 6 (.int .i64 e.p.i)
  have v7 := Zv KE2.out 7 (.int .i64 e.p.h)
  have v8 := Zv KE2.out 8 (.bool e.p.pair)
  go_wp2_with fail
  refine (evPut_any t (some ⟨w2.heap.size, 0, none⟩) 1 1 [e] w3 HV3.out (by decide)).mono ?_
  rintro e w4 ⟨a4, c4, n4, rfl, h1, h2, hb⟩
  have HB4 := Zt HB3 hb
  have KE4 := Zk KE3 hb
  clear hb
  clear v0 v1 v2 v3 v4 v5 v6 v7 v8 hw3
  cases hp : N.put t [e] with
  | none =>
    simp only [Option.isSome_none]
    clear hp h1 h2
    go_wp2_with fail
    go_ret
    exact ⟨rfl, HB4.out⟩
  | some q =>
  rw [hp] at h1 h2
  simp only [Option.getD_some] at h1 h2
  simp only [Option.isSome_some]
  have HQN := h1
  have HQ4 := h2
  have HRD := Lib.hid (N.read_some.2 hp)
  have HM := Lib.hid (N.put_some.1 hp).2.1.1
  clear h1 h2 hp
  go_wp2_with fail
  refine (evRead_any t a4 n4 c4 q w4 HQN.out HQ4.out).mono ?_
  rintro e w5 ⟨a5, c5, n5, rfl, h1, h2, hb⟩
  have HB5 := Zt HB4 hb
  have KE5 := Zk KE4 hb
  clear hb
  rw [HRD.out] at h1 h2 ⊢
  simp only [Option.getD_some, Option.isSome_some] at h1 h2 ⊢
  obtain rfl : 1 = n5 := h1.out
  have HX5 := h2
  clear h1 h2
  obtain ⟨w6, hw6, hb, hk⟩ := Zn w5 34 #[.int .i64 e.k, .int .i64 e.t, .int .i64 e.a, .int .i64 e.b, .int .i64 e.c, .int .i64 e.p.q, .int .i64 e.p.i, .int .i64 e.p.h, .bool e.p.pair]
  have HB6 := Zt HB5 hb
  have KE6 := Zk KE5 hb
  have HX6 := Lib.hid (HX5.out.below hb)
  have HV6 : Hid (VIn w6 (some ⟨w5.heap.size, 0, none⟩) 1 1 [e]) := Lib.hid (vin_one e hk)
  clear hb hk
  have v0 := Zv KE5.out 0 (.int .i64 e.k)
  have v1 := Zv KE5.out 1 (.int .i64 e.t)
  have v2 := Zv KE5.out 2 (.int .i64 e.a)
  have v3 := Zv KE5.out 3 (.int .i64 e.b)
  have v4 := Zv KE5.out 4 (.int .i64 e.c)
  have v5 := Zv KE5.out 5 (.int .i64 e.p.q)
  have v6 := Zv KE5.out 6 (.int .i64 e.p.i)
  have v7 := Zv KE5.out 7 (.int .i64 e.p.h)
  have v8 := Zv KE5.out 8 (.bool e.p.pair)
  go_wp2_with fail
  refine (evPut_any f (some ⟨w5.heap.size, 0, none⟩) 1 1 [e] w6 HV6.out (by decide)).mono ?_
  rintro e w7 ⟨a7, c7, n7, rfl, h1, h2, hb⟩
  have HB7 := Zt HB6 hb
  have KE7 := Zk KE6 hb
  have HX7 := Lib.hid (HX6.out.below hb)
  clear hb
  clear v0 v1 v2 v3 v4 v5 v6 v7 v8 hw6 h1 h2
  obtain ⟨lv, hlv⟩ : ∃ z, (N.put f [e]).isSome = z := ⟨_, rfl⟩
  obtain ⟨fv, hfv⟩ : ∃ z, decide (f ≤ e.t) = z := ⟨_, rfl⟩
  have F1 : Hid (lv = true → fv = true) := Lib.hid (by
    rintro rfl
    rw [← hfv]
    obtain ⟨z, hz⟩ := Option.isSome_iff_exists.1 hlv
    exact decide_eq_true (N.put_some.1 hz).2.1.2.1)
  rw [hlv]
  have HF := Lib.hid hfv
  clear hlv hfv
  obtain ⟨bx, offx, x, hax, hbx, hx, pc⟩ := HX7.out.at (show 0 < 1 by decide)
  obtain rfl : e = x := Option.some.inj hx
  subst hax
  have P0 : Hid (w7.cell? ⟨bx, offx, none⟩ = some (.int .i64 e.k)) := Lib.hid (by have := pc 0 _ rfl; simpa using this)
  have P1 : Hid (w7.cell? ⟨bx, offx + 1, none⟩ = some (.int .i64 e.t)) := Lib.hid (by have := pc 1 _ rfl; simpa using this)
  have P2 : Hid (w7.cell? ⟨bx, offx + 2, none⟩ = some (.int .i64 e.a)) := Lib.hid (by have := pc 2 _ rfl; simpa using this)
  have P3 : Hid (w7.cell? ⟨bx, offx + 3, none⟩ = some (.int .i64 e.b)) := Lib.hid (by have := pc 3 _ rfl; simpa using this)
  have P4 : Hid (w7.cell? ⟨bx, offx + 4, none⟩ = some (.int .i64 e.c)) := Lib.hid (by have := pc 4 _ rfl; simpa using this)
  have P5 : Hid (w7.cell? ⟨bx, offx + 5, none⟩ = some (.int .i64 e.p.q)) := Lib.hid (by have := pc 5 _ rfl; simpa using this)
  have P6 : Hid (w7.cell? ⟨bx, offx + 6, none⟩ = some (.int .i64 e.p.i)) := Lib.hid (by have := pc 6 _ rfl; simpa using this)
  have P7 : Hid (w7.cell? ⟨bx, offx + 7, none⟩ = some (.int .i64 e.p.h)) := Lib.hid (by have := pc 7 _ rfl; simpa using this)
  have P8 : Hid (w7.cell? ⟨bx, offx + 8, none⟩ = some (.bool e.p.pair)) := Lib.hid (by have := pc 8 _ rfl; simpa using this)
  have HBX := Lib.hid hbx
  clear pc hx hbx
  cases lv with
  | true =>
    obtain rfl : fv = true := F1.out rfl
    have df := HF.out
    go_wp2_with fail
    refine wp_region_held (S := fun w' => Below w7.heap.size w7 w') (by kernel_rfl) ?_
    change wpAnyH _ _ _ _ _ _ _ _ (World.drew _)
    have RS0 : (fun w' => Below w7.heap.size w7 w') (World.drew w7) := below_drew w7
    refine wpAnyH_take (i := 0) (v := .agg #[.int .i64 e.k, .int .i64 e.t, .int .i64 e.a, .int .i64 e.b, .int .i64 e.c, .int .i64 e.p.q, .int .i64 e.p.i, .int .i64 e.p.h, .bool e.p.pair]) rfl (by kernel_rfl) (by kernel_rfl) (by kernel_rfl) (fun _ _ _ h => h) (.inl ⟨by kernel_rfl, fun w9 hS => by
          have y0 : w9.cell? ⟨w.heap.size, 0, none⟩ = some (.int .i64 e.k) := (KE7.out.below hS KE7.out.lt).cell 0
          have y1 : w9.cell? ⟨w.heap.size, 1, none⟩ = some (.int .i64 e.t) := (KE7.out.below hS KE7.out.lt).cell 1
          have y2 : w9.cell? ⟨w.heap.size, 2, none⟩ = some (.int .i64 e.a) := (KE7.out.below hS KE7.out.lt).cell 2
          have y3 : w9.cell? ⟨w.heap.size, 3, none⟩ = some (.int .i64 e.b) := (KE7.out.below hS KE7.out.lt).cell 3
          have y4 : w9.cell? ⟨w.heap.size, 4, none⟩ = some (.int .i64 e.c) := (KE7.out.below hS KE7.out.lt).cell 4
          have y5 : w9.cell? ⟨w.heap.size, 5, none⟩ = some (.int .i64 e.p.q) := (KE7.out.below hS KE7.out.lt).cell 5
          have y6 : w9.cell? ⟨w.heap.size, 6, none⟩ = some (.int .i64 e.p.i) := (KE7.out.below hS KE7.out.lt).cell 6
          have y7 : w9.cell? ⟨w.heap.size, 7, none⟩ = some (.int .i64 e.p.h) := (KE7.out.below hS KE7.out.lt).cell 7
          have y8 : w9.cell? ⟨w.heap.size, 8, none⟩ = some (.bool e.p.pair) := (KE7.out.below hS KE7.out.lt).cell 8
          go_simp⟩) RS0 ?_
    refine wpAnyH_call (i := 1) (f := 17) (args := #[.agg #[.int .i64 e.k, .int .i64 e.t, .int .i64 e.a, .int .i64 e.b, .int .i64 e.c, .int .i64 e.p.q, .int .i64 e.p.i, .int .i64 e.p.h, .bool e.p.pair]]) (by kernel_rfl) rfl (by kernel_rfl) (by kernel_rfl) (evMay_any e true (decide_eq_true HM.out) _) ?_
    rintro e w8 ⟨rfl, hb⟩
    have RS1 : (fun w' => Below w7.heap.size w7 w') w8 := Below.trans RS0 (hb.mono (Below.size RS0))
    refine ⟨_, rfl, RS1, ?_⟩
    refine wpAnyH_take (i := 2) (v := .bool true) rfl (by kernel_rfl) (by kernel_rfl) (by kernel_rfl) (fun _ _ _ h => h) (.inl ⟨by kernel_rfl, fun w9 hS => by kernel_rfl⟩) RS1 ?_
    refine wpAnyH_take (i := 3) (v := .bool true) rfl (by kernel_rfl) (by kernel_rfl) (by kernel_rfl) (fun _ _ _ h => h) (.inl ⟨by kernel_rfl, fun w9 hS => by kernel_rfl⟩) RS1 ?_
    refine wpAnyH_take (i := 4) (v := .bool true) rfl (by kernel_rfl) (by kernel_rfl) (by kernel_rfl) (fun _ _ _ h => h) (.inl ⟨by kernel_rfl, fun w9 hS => by kernel_rfl⟩) RS1 ?_
    refine wpAnyH_take (i := 5) (v := .bool true) rfl (by kernel_rfl) (by kernel_rfl) (by kernel_rfl) (fun _ _ _ h => h) (.inl ⟨by kernel_rfl, fun w9 hS => by kernel_rfl⟩) RS1 ?_
    refine wpAnyH_take (i := 6) (v := .slice (some ⟨bx, offx, none⟩) 1 c5) rfl (by kernel_rfl) (by kernel_rfl) (by kernel_rfl) (fun _ _ _ h => h) (.inl ⟨by kernel_rfl, fun w9 hS => by kernel_rfl⟩) RS1 ?_
    refine wpAnyH_take (i := 7) (v := .int .i64 1) rfl (by kernel_rfl) (by kernel_rfl) (by kernel_rfl) (fun _ _ _ h => h) (.inl ⟨by kernel_rfl, fun w9 hS => by kernel_rfl⟩) RS1 ?_
    refine wpAnyH_take (i := 8) (v := .bool true) rfl (by kernel_rfl) (by kernel_rfl) (by kernel_rfl) (fun _ _ _ h => h) (.inl ⟨by kernel_rfl, fun w9 hS => by go_simp⟩) RS1 ?_
    refine wpAnyH_take (i := 9) (v := .bool true) rfl (by kernel_rfl) (by kernel_rfl) (by kernel_rfl) (fun _ _ _ h => h) (.inl ⟨by kernel_rfl, fun w9 hS => by kernel_rfl⟩) RS1 ?_
    refine wpAnyH_take (i := 10) (v := .bool true) rfl (by kernel_rfl) (by kernel_rfl) (by kernel_rfl) (fun _ _ _ h => h) (.inl ⟨by kernel_rfl, fun w9 hS => by kernel_rfl⟩) RS1 ?_
    refine wpAnyH_take (i := 11) (v := .slice (some ⟨bx, offx, none⟩) 1 c5) rfl (by kernel_rfl) (by kernel_rfl) (by kernel_rfl) (fun _ _ _ h => h) (.inl ⟨by kernel_rfl, fun w9 hS => by kernel_rfl⟩) RS1 ?_
    refine wpAnyH_take (i := 12) (v := .pointer (some ⟨bx, offx, none⟩)) rfl (by kernel_rfl) (by kernel_rfl) (by kernel_rfl) (fun _ _ _ h => h) (.inl ⟨by kernel_rfl, fun w9 hS => by go_simp⟩) RS1 ?_
    refine wpAnyH_take (i := 13) (v := .agg #[.int .i64 e.k, .int .i64 e.t, .int .i64 e.a, .int .i64 e.b, .int .i64 e.c, .int .i64 e.p.q, .int .i64 e.p.i, .int .i64 e.p.h, .bool e.p.pair]) rfl (by kernel_rfl) (by kernel_rfl) (by kernel_rfl) (fun _ _ _ h => h) (.inl ⟨by kernel_rfl, fun w9 hS => by
          have y0 : w9.cell? ⟨bx, offx, none⟩ = some (.int .i64 e.k) := (Below.cell hS HBX.out).trans P0.out
          have y1 : w9.cell? ⟨bx, offx + 1, none⟩ = some (.int .i64 e.t) := (Below.cell hS HBX.out).trans P1.out
          have y2 : w9.cell? ⟨bx, offx + 2, none⟩ = some (.int .i64 e.a) := (Below.cell hS HBX.out).trans P2.out
          have y3 : w9.cell? ⟨bx, offx + 3, none⟩ = some (.int .i64 e.b) := (Below.cell hS HBX.out).trans P3.out
          have y4 : w9.cell? ⟨bx, offx + 4, none⟩ = some (.int .i64 e.c) := (Below.cell hS HBX.out).trans P4.out
          have y5 : w9.cell? ⟨bx, offx + 5, none⟩ = some (.int .i64 e.p.q) := (Below.cell hS HBX.out).trans P5.out
          have y6 : w9.cell? ⟨bx, offx + 6, none⟩ = some (.int .i64 e.p.i) := (Below.cell hS HBX.out).trans P6.out
          have y7 : w9.cell? ⟨bx, offx + 7, none⟩ = some (.int .i64 e.p.h) := (Below.cell hS HBX.out).trans P7.out
          have y8 : w9.cell? ⟨bx, offx + 8, none⟩ = some (.bool e.p.pair) := (Below.cell hS HBX.out).trans P8.out
          go_simp⟩) RS1 ?_
    refine wpAnyH_take (i := 14) (v := .agg #[.int .i64 e.k, .int .i64 e.t, .int .i64 e.a, .int .i64 e.b, .int .i64 e.c, .int .i64 e.p.q, .int .i64 e.p.i, .int .i64 e.p.h, .bool e.p.pair]) rfl (by kernel_rfl) (by kernel_rfl) (by kernel_rfl) (fun _ _ _ h => h) (.inl ⟨by kernel_rfl, fun w9 hS => by
          have y0 : w9.cell? ⟨w.heap.size, 0, none⟩ = some (.int .i64 e.k) := (KE7.out.below hS KE7.out.lt).cell 0
          have y1 : w9.cell? ⟨w.heap.size, 1, none⟩ = some (.int .i64 e.t) := (KE7.out.below hS KE7.out.lt).cell 1
          have y2 : w9.cell? ⟨w.heap.size, 2, none⟩ = some (.int .i64 e.a) := (KE7.out.below hS KE7.out.lt).cell 2
          have y3 : w9.cell? ⟨w.heap.size, 3, none⟩ = some (.int .i64 e.b) := (KE7.out.below hS KE7.out.lt).cell 3
          have y4 : w9.cell? ⟨w.heap.size, 4, none⟩ = some (.int .i64 e.c) := (KE7.out.below hS KE7.out.lt).cell 4
          have y5 : w9.cell? ⟨w.heap.size, 5, none⟩ = some (.int .i64 e.p.q) := (KE7.out.below hS KE7.out.lt).cell 5
          have y6 : w9.cell? ⟨w.heap.size, 6, none⟩ = some (.int .i64 e.p.i) := (KE7.out.below hS KE7.out.lt).cell 6
          have y7 : w9.cell? ⟨w.heap.size, 7, none⟩ = some (.int .i64 e.p.h) := (KE7.out.below hS KE7.out.lt).cell 7
          have y8 : w9.cell? ⟨w.heap.size, 8, none⟩ = some (.bool e.p.pair) := (KE7.out.below hS KE7.out.lt).cell 8
          go_simp⟩) RS1 ?_
    refine wpAnyH_take (i := 15) (v := .bool true) rfl (by kernel_rfl) (by kernel_rfl) (by kernel_rfl) (fun _ _ _ h => h) (.inl ⟨by kernel_rfl, fun w9 hS => by go_simp⟩) RS1 ?_
    refine wpAnyH_take (i := 16) (v := .bool true) rfl (by kernel_rfl) (by kernel_rfl) (by kernel_rfl) (fun _ _ _ h => h) (.inl ⟨by kernel_rfl, fun w9 hS => by kernel_rfl⟩) RS1 ?_
    refine wpAnyH_take (i := 17) (v := .bool true) rfl (by kernel_rfl) (by kernel_rfl) (by kernel_rfl) (fun _ _ _ h => h) (.inl ⟨by kernel_rfl, fun w9 hS => by kernel_rfl⟩) RS1 ?_
    refine wpAnyH_take (i := 18) (v := .int .i64 f) rfl (by kernel_rfl) (by kernel_rfl) (by kernel_rfl) (fun _ _ _ h => h) (.inl ⟨by kernel_rfl, fun w9 hS => by kernel_rfl⟩) RS1 ?_
    refine wpAnyH_take (i := 19) (v := .pointer (some ⟨w.heap.size, 1, none⟩)) rfl (by kernel_rfl) (by kernel_rfl) (by kernel_rfl) (fun _ _ _ h => h) (.inl ⟨by kernel_rfl, fun w9 hS => by kernel_rfl⟩) RS1 ?_
    refine wpAnyH_take (i := 20) (v := .int .i64 e.t) rfl (by kernel_rfl) (by kernel_rfl) (by kernel_rfl) (fun _ _ _ h => h) (.inl ⟨by kernel_rfl, fun w9 hS => by
          have y1 : w9.cell? ⟨w.heap.size, 1, none⟩ = some (.int .i64 e.t) := (KE7.out.below hS KE7.out.lt).cell 1
          go_simp⟩) RS1 ?_
    refine wpAnyH_take (i := 21) (v := .bool true) rfl (by kernel_rfl) (by kernel_rfl) (by kernel_rfl) (fun _ _ _ h => h) (.inl ⟨by kernel_rfl, fun w9 hS => by go_simp⟩) RS1 ?_
    refine wpAnyH_take (i := 22) (v := .bool true) rfl (by kernel_rfl) (by kernel_rfl) (by kernel_rfl) (fun _ _ _ h => h) (.inl ⟨by kernel_rfl, fun w9 hS => by kernel_rfl⟩) RS1 ?_
    refine wpAnyH_take (i := 23) (v := undef) rfl (by kernel_rfl) (by kernel_rfl) (by kernel_rfl) (fun _ _ _ h => h) (.inr ⟨by kernel_rfl, rfl⟩) RS1 ?_
    refine wpAnyH_take (i := 24) (v := undef) rfl (by kernel_rfl) (by kernel_rfl) (by kernel_rfl) (fun _ _ _ h => h) (.inr ⟨by kernel_rfl, rfl⟩) RS1 ?_
    refine wpAnyH_take (i := 25) (v := .bool true) rfl (by kernel_rfl) (by kernel_rfl) (by kernel_rfl) (fun _ _ _ h => h) (.inl ⟨by kernel_rfl, fun w9 hS => by kernel_rfl⟩) RS1 ?_
    refine wpAnyH_take (i := 26) (v := .bool true) rfl (by kernel_rfl) (by kernel_rfl) (by kernel_rfl) (fun _ _ _ h => h) (.inl ⟨by kernel_rfl, fun w9 hS => by kernel_rfl⟩) RS1 ?_
    refine wpAnyH_take (i := 27) (v := .bool true) rfl (by kernel_rfl) (by kernel_rfl) (by kernel_rfl) (fun _ _ _ h => h) (.inl ⟨by kernel_rfl, fun w9 hS => by kernel_rfl⟩) RS1 ?_
    refine wpAnyH_done (by kernel_rfl) ?_ _
    simp only [List.getElem_toArray, List.getElem_cons_succ, List.getElem_cons_zero, put_some, List.setIfInBounds_toArray, List.set_cons_succ, List.set_cons_zero]
    have HB8 : Hid (Below w.heap.size w w8) := Zt HB7 RS1
    clear RS0 RS1
    go_wp2_with fail
    go_ret
    exact ⟨rfl, HB8.out⟩
  | false =>
    cases fv with
    | true =>
      have df := HF.out
      go_wp2_with fail
      refine wp_region_held (S := fun w' => Below w7.heap.size w7 w') (by kernel_rfl) ?_
      change wpAnyH _ _ _ _ _ _ _ _ (World.drew _)
      have RS0 : (fun w' => Below w7.heap.size w7 w') (World.drew w7) := below_drew w7
      refine wpAnyH_take (i := 0) (v := .agg #[.int .i64 e.k, .int .i64 e.t, .int .i64 e.a, .int .i64 e.b, .int .i64 e.c, .int .i64 e.p.q, .int .i64 e.p.i, .int .i64 e.p.h, .bool e.p.pair]) rfl (by kernel_rfl) (by kernel_rfl) (by kernel_rfl) (fun _ _ _ h => h) (.inl ⟨by kernel_rfl, fun w9 hS => by
            have y0 : w9.cell? ⟨w.heap.size, 0, none⟩ = some (.int .i64 e.k) := (KE7.out.below hS KE7.out.lt).cell 0
            have y1 : w9.cell? ⟨w.heap.size, 1, none⟩ = some (.int .i64 e.t) := (KE7.out.below hS KE7.out.lt).cell 1
            have y2 : w9.cell? ⟨w.heap.size, 2, none⟩ = some (.int .i64 e.a) := (KE7.out.below hS KE7.out.lt).cell 2
            have y3 : w9.cell? ⟨w.heap.size, 3, none⟩ = some (.int .i64 e.b) := (KE7.out.below hS KE7.out.lt).cell 3
            have y4 : w9.cell? ⟨w.heap.size, 4, none⟩ = some (.int .i64 e.c) := (KE7.out.below hS KE7.out.lt).cell 4
            have y5 : w9.cell? ⟨w.heap.size, 5, none⟩ = some (.int .i64 e.p.q) := (KE7.out.below hS KE7.out.lt).cell 5
            have y6 : w9.cell? ⟨w.heap.size, 6, none⟩ = some (.int .i64 e.p.i) := (KE7.out.below hS KE7.out.lt).cell 6
            have y7 : w9.cell? ⟨w.heap.size, 7, none⟩ = some (.int .i64 e.p.h) := (KE7.out.below hS KE7.out.lt).cell 7
            have y8 : w9.cell? ⟨w.heap.size, 8, none⟩ = some (.bool e.p.pair) := (KE7.out.below hS KE7.out.lt).cell 8
            go_simp⟩) RS0 ?_
      refine wpAnyH_call (i := 1) (f := 17) (args := #[.agg #[.int .i64 e.k, .int .i64 e.t, .int .i64 e.a, .int .i64 e.b, .int .i64 e.c, .int .i64 e.p.q, .int .i64 e.p.i, .int .i64 e.p.h, .bool e.p.pair]]) (by kernel_rfl) rfl (by kernel_rfl) (by kernel_rfl) (evMay_any e true (decide_eq_true HM.out) _) ?_
      rintro e w8 ⟨rfl, hb⟩
      have RS1 : (fun w' => Below w7.heap.size w7 w') w8 := Below.trans RS0 (hb.mono (Below.size RS0))
      refine ⟨_, rfl, RS1, ?_⟩
      refine wpAnyH_take (i := 2) (v := .bool true) rfl (by kernel_rfl) (by kernel_rfl) (by kernel_rfl) (fun _ _ _ h => h) (.inl ⟨by kernel_rfl, fun w9 hS => by kernel_rfl⟩) RS1 ?_
      refine wpAnyH_take (i := 3) (v := .bool true) rfl (by kernel_rfl) (by kernel_rfl) (by kernel_rfl) (fun _ _ _ h => h) (.inl ⟨by kernel_rfl, fun w9 hS => by kernel_rfl⟩) RS1 ?_
      refine wpAnyH_take (i := 4) (v := .bool true) rfl (by kernel_rfl) (by kernel_rfl) (by kernel_rfl) (fun _ _ _ h => h) (.inl ⟨by kernel_rfl, fun w9 hS => by kernel_rfl⟩) RS1 ?_
      refine wpAnyH_take (i := 5) (v := .bool true) rfl (by kernel_rfl) (by kernel_rfl) (by kernel_rfl) (fun _ _ _ h => h) (.inl ⟨by kernel_rfl, fun w9 hS => by kernel_rfl⟩) RS1 ?_
      refine wpAnyH_take (i := 6) (v := .slice (some ⟨bx, offx, none⟩) 1 c5) rfl (by kernel_rfl) (by kernel_rfl) (by kernel_rfl) (fun _ _ _ h => h) (.inl ⟨by kernel_rfl, fun w9 hS => by kernel_rfl⟩) RS1 ?_
      refine wpAnyH_take (i := 7) (v := .int .i64 1) rfl (by kernel_rfl) (by kernel_rfl) (by kernel_rfl) (fun _ _ _ h => h) (.inl ⟨by kernel_rfl, fun w9 hS => by kernel_rfl⟩) RS1 ?_
      refine wpAnyH_take (i := 8) (v := .bool true) rfl (by kernel_rfl) (by kernel_rfl) (by kernel_rfl) (fun _ _ _ h => h) (.inl ⟨by kernel_rfl, fun w9 hS => by go_simp⟩) RS1 ?_
      refine wpAnyH_take (i := 9) (v := .bool true) rfl (by kernel_rfl) (by kernel_rfl) (by kernel_rfl) (fun _ _ _ h => h) (.inl ⟨by kernel_rfl, fun w9 hS => by kernel_rfl⟩) RS1 ?_
      refine wpAnyH_take (i := 10) (v := .bool true) rfl (by kernel_rfl) (by kernel_rfl) (by kernel_rfl) (fun _ _ _ h => h) (.inl ⟨by kernel_rfl, fun w9 hS => by kernel_rfl⟩) RS1 ?_
      refine wpAnyH_take (i := 11) (v := .slice (some ⟨bx, offx, none⟩) 1 c5) rfl (by kernel_rfl) (by kernel_rfl) (by kernel_rfl) (fun _ _ _ h => h) (.inl ⟨by kernel_rfl, fun w9 hS => by kernel_rfl⟩) RS1 ?_
      refine wpAnyH_take (i := 12) (v := .pointer (some ⟨bx, offx, none⟩)) rfl (by kernel_rfl) (by kernel_rfl) (by kernel_rfl) (fun _ _ _ h => h) (.inl ⟨by kernel_rfl, fun w9 hS => by go_simp⟩) RS1 ?_
      refine wpAnyH_take (i := 13) (v := .agg #[.int .i64 e.k, .int .i64 e.t, .int .i64 e.a, .int .i64 e.b, .int .i64 e.c, .int .i64 e.p.q, .int .i64 e.p.i, .int .i64 e.p.h, .bool e.p.pair]) rfl (by kernel_rfl) (by kernel_rfl) (by kernel_rfl) (fun _ _ _ h => h) (.inl ⟨by kernel_rfl, fun w9 hS => by
            have y0 : w9.cell? ⟨bx, offx, none⟩ = some (.int .i64 e.k) := (Below.cell hS HBX.out).trans P0.out
            have y1 : w9.cell? ⟨bx, offx + 1, none⟩ = some (.int .i64 e.t) := (Below.cell hS HBX.out).trans P1.out
            have y2 : w9.cell? ⟨bx, offx + 2, none⟩ = some (.int .i64 e.a) := (Below.cell hS HBX.out).trans P2.out
            have y3 : w9.cell? ⟨bx, offx + 3, none⟩ = some (.int .i64 e.b) := (Below.cell hS HBX.out).trans P3.out
            have y4 : w9.cell? ⟨bx, offx + 4, none⟩ = some (.int .i64 e.c) := (Below.cell hS HBX.out).trans P4.out
            have y5 : w9.cell? ⟨bx, offx + 5, none⟩ = some (.int .i64 e.p.q) := (Below.cell hS HBX.out).trans P5.out
            have y6 : w9.cell? ⟨bx, offx + 6, none⟩ = some (.int .i64 e.p.i) := (Below.cell hS HBX.out).trans P6.out
            have y7 : w9.cell? ⟨bx, offx + 7, none⟩ = some (.int .i64 e.p.h) := (Below.cell hS HBX.out).trans P7.out
            have y8 : w9.cell? ⟨bx, offx + 8, none⟩ = some (.bool e.p.pair) := (Below.cell hS HBX.out).trans P8.out
            go_simp⟩) RS1 ?_
      refine wpAnyH_take (i := 14) (v := .agg #[.int .i64 e.k, .int .i64 e.t, .int .i64 e.a, .int .i64 e.b, .int .i64 e.c, .int .i64 e.p.q, .int .i64 e.p.i, .int .i64 e.p.h, .bool e.p.pair]) rfl (by kernel_rfl) (by kernel_rfl) (by kernel_rfl) (fun _ _ _ h => h) (.inl ⟨by kernel_rfl, fun w9 hS => by
            have y0 : w9.cell? ⟨w.heap.size, 0, none⟩ = some (.int .i64 e.k) := (KE7.out.below hS KE7.out.lt).cell 0
            have y1 : w9.cell? ⟨w.heap.size, 1, none⟩ = some (.int .i64 e.t) := (KE7.out.below hS KE7.out.lt).cell 1
            have y2 : w9.cell? ⟨w.heap.size, 2, none⟩ = some (.int .i64 e.a) := (KE7.out.below hS KE7.out.lt).cell 2
            have y3 : w9.cell? ⟨w.heap.size, 3, none⟩ = some (.int .i64 e.b) := (KE7.out.below hS KE7.out.lt).cell 3
            have y4 : w9.cell? ⟨w.heap.size, 4, none⟩ = some (.int .i64 e.c) := (KE7.out.below hS KE7.out.lt).cell 4
            have y5 : w9.cell? ⟨w.heap.size, 5, none⟩ = some (.int .i64 e.p.q) := (KE7.out.below hS KE7.out.lt).cell 5
            have y6 : w9.cell? ⟨w.heap.size, 6, none⟩ = some (.int .i64 e.p.i) := (KE7.out.below hS KE7.out.lt).cell 6
            have y7 : w9.cell? ⟨w.heap.size, 7, none⟩ = some (.int .i64 e.p.h) := (KE7.out.below hS KE7.out.lt).cell 7
            have y8 : w9.cell? ⟨w.heap.size, 8, none⟩ = some (.bool e.p.pair) := (KE7.out.below hS KE7.out.lt).cell 8
            go_simp⟩) RS1 ?_
      refine wpAnyH_take (i := 15) (v := .bool true) rfl (by kernel_rfl) (by kernel_rfl) (by kernel_rfl) (fun _ _ _ h => h) (.inl ⟨by kernel_rfl, fun w9 hS => by go_simp⟩) RS1 ?_
      refine wpAnyH_take (i := 16) (v := .bool true) rfl (by kernel_rfl) (by kernel_rfl) (by kernel_rfl) (fun _ _ _ h => h) (.inl ⟨by kernel_rfl, fun w9 hS => by kernel_rfl⟩) RS1 ?_
      refine wpAnyH_take (i := 17) (v := .bool true) rfl (by kernel_rfl) (by kernel_rfl) (by kernel_rfl) (fun _ _ _ h => h) (.inl ⟨by kernel_rfl, fun w9 hS => by kernel_rfl⟩) RS1 ?_
      refine wpAnyH_take (i := 18) (v := .int .i64 f) rfl (by kernel_rfl) (by kernel_rfl) (by kernel_rfl) (fun _ _ _ h => h) (.inl ⟨by kernel_rfl, fun w9 hS => by kernel_rfl⟩) RS1 ?_
      refine wpAnyH_take (i := 19) (v := .pointer (some ⟨w.heap.size, 1, none⟩)) rfl (by kernel_rfl) (by kernel_rfl) (by kernel_rfl) (fun _ _ _ h => h) (.inl ⟨by kernel_rfl, fun w9 hS => by kernel_rfl⟩) RS1 ?_
      refine wpAnyH_take (i := 20) (v := .int .i64 e.t) rfl (by kernel_rfl) (by kernel_rfl) (by kernel_rfl) (fun _ _ _ h => h) (.inl ⟨by kernel_rfl, fun w9 hS => by
            have y1 : w9.cell? ⟨w.heap.size, 1, none⟩ = some (.int .i64 e.t) := (KE7.out.below hS KE7.out.lt).cell 1
            go_simp⟩) RS1 ?_
      refine wpAnyH_take (i := 21) (v := .bool true) rfl (by kernel_rfl) (by kernel_rfl) (by kernel_rfl) (fun _ _ _ h => h) (.inl ⟨by kernel_rfl, fun w9 hS => by go_simp⟩) RS1 ?_
      refine wpAnyH_take (i := 22) (v := .bool true) rfl (by kernel_rfl) (by kernel_rfl) (by kernel_rfl) (fun _ _ _ h => h) (.inl ⟨by kernel_rfl, fun w9 hS => by kernel_rfl⟩) RS1 ?_
      refine wpAnyH_take (i := 23) (v := undef) rfl (by kernel_rfl) (by kernel_rfl) (by kernel_rfl) (fun _ _ _ h => h) (.inr ⟨by kernel_rfl, rfl⟩) RS1 ?_
      refine wpAnyH_take (i := 24) (v := undef) rfl (by kernel_rfl) (by kernel_rfl) (by kernel_rfl) (fun _ _ _ h => h) (.inr ⟨by kernel_rfl, rfl⟩) RS1 ?_
      refine wpAnyH_take (i := 25) (v := .bool true) rfl (by kernel_rfl) (by kernel_rfl) (by kernel_rfl) (fun _ _ _ h => h) (.inl ⟨by kernel_rfl, fun w9 hS => by kernel_rfl⟩) RS1 ?_
      refine wpAnyH_take (i := 26) (v := .bool true) rfl (by kernel_rfl) (by kernel_rfl) (by kernel_rfl) (fun _ _ _ h => h) (.inl ⟨by kernel_rfl, fun w9 hS => by kernel_rfl⟩) RS1 ?_
      refine wpAnyH_take (i := 27) (v := .bool true) rfl (by kernel_rfl) (by kernel_rfl) (by kernel_rfl) (fun _ _ _ h => h) (.inl ⟨by kernel_rfl, fun w9 hS => by kernel_rfl⟩) RS1 ?_
      refine wpAnyH_done (by kernel_rfl) ?_ _
      simp only [List.getElem_toArray, List.getElem_cons_succ, List.getElem_cons_zero, put_some, List.setIfInBounds_toArray, List.set_cons_succ, List.set_cons_zero]
      have HB8 : Hid (Below w.heap.size w w8) := Zt HB7 RS1
      clear RS0 RS1
      go_wp2_with fail
      go_ret
      exact ⟨rfl, HB8.out⟩
    | false =>
      have df := HF.out
      go_wp2_with fail
      refine wp_region_held (S := fun w' => Below w7.heap.size w7 w') (by kernel_rfl) ?_
      change wpAnyH _ _ _ _ _ _ _ _ (World.drew _)
      have RS0 : (fun w' => Below w7.heap.size w7 w') (World.drew w7) := below_drew w7
      refine wpAnyH_take (i := 0) (v := .agg #[.int .i64 e.k, .int .i64 e.t, .int .i64 e.a, .int .i64 e.b, .int .i64 e.c, .int .i64 e.p.q, .int .i64 e.p.i, .int .i64 e.p.h, .bool e.p.pair]) rfl (by kernel_rfl) (by kernel_rfl) (by kernel_rfl) (fun _ _ _ h => h) (.inl ⟨by kernel_rfl, fun w9 hS => by
            have y0 : w9.cell? ⟨w.heap.size, 0, none⟩ = some (.int .i64 e.k) := (KE7.out.below hS KE7.out.lt).cell 0
            have y1 : w9.cell? ⟨w.heap.size, 1, none⟩ = some (.int .i64 e.t) := (KE7.out.below hS KE7.out.lt).cell 1
            have y2 : w9.cell? ⟨w.heap.size, 2, none⟩ = some (.int .i64 e.a) := (KE7.out.below hS KE7.out.lt).cell 2
            have y3 : w9.cell? ⟨w.heap.size, 3, none⟩ = some (.int .i64 e.b) := (KE7.out.below hS KE7.out.lt).cell 3
            have y4 : w9.cell? ⟨w.heap.size, 4, none⟩ = some (.int .i64 e.c) := (KE7.out.below hS KE7.out.lt).cell 4
            have y5 : w9.cell? ⟨w.heap.size, 5, none⟩ = some (.int .i64 e.p.q) := (KE7.out.below hS KE7.out.lt).cell 5
            have y6 : w9.cell? ⟨w.heap.size, 6, none⟩ = some (.int .i64 e.p.i) := (KE7.out.below hS KE7.out.lt).cell 6
            have y7 : w9.cell? ⟨w.heap.size, 7, none⟩ = some (.int .i64 e.p.h) := (KE7.out.below hS KE7.out.lt).cell 7
            have y8 : w9.cell? ⟨w.heap.size, 8, none⟩ = some (.bool e.p.pair) := (KE7.out.below hS KE7.out.lt).cell 8
            go_simp⟩) RS0 ?_
      refine wpAnyH_call (i := 1) (f := 17) (args := #[.agg #[.int .i64 e.k, .int .i64 e.t, .int .i64 e.a, .int .i64 e.b, .int .i64 e.c, .int .i64 e.p.q, .int .i64 e.p.i, .int .i64 e.p.h, .bool e.p.pair]]) (by kernel_rfl) rfl (by kernel_rfl) (by kernel_rfl) (evMay_any e true (decide_eq_true HM.out) _) ?_
      rintro e w8 ⟨rfl, hb⟩
      have RS1 : (fun w' => Below w7.heap.size w7 w') w8 := Below.trans RS0 (hb.mono (Below.size RS0))
      refine ⟨_, rfl, RS1, ?_⟩
      refine wpAnyH_take (i := 2) (v := .bool true) rfl (by kernel_rfl) (by kernel_rfl) (by kernel_rfl) (fun _ _ _ h => h) (.inl ⟨by kernel_rfl, fun w9 hS => by kernel_rfl⟩) RS1 ?_
      refine wpAnyH_take (i := 3) (v := .bool true) rfl (by kernel_rfl) (by kernel_rfl) (by kernel_rfl) (fun _ _ _ h => h) (.inl ⟨by kernel_rfl, fun w9 hS => by kernel_rfl⟩) RS1 ?_
      refine wpAnyH_take (i := 4) (v := .bool true) rfl (by kernel_rfl) (by kernel_rfl) (by kernel_rfl) (fun _ _ _ h => h) (.inl ⟨by kernel_rfl, fun w9 hS => by kernel_rfl⟩) RS1 ?_
      refine wpAnyH_take (i := 5) (v := .bool true) rfl (by kernel_rfl) (by kernel_rfl) (by kernel_rfl) (fun _ _ _ h => h) (.inl ⟨by kernel_rfl, fun w9 hS => by kernel_rfl⟩) RS1 ?_
      refine wpAnyH_take (i := 6) (v := .slice (some ⟨bx, offx, none⟩) 1 c5) rfl (by kernel_rfl) (by kernel_rfl) (by kernel_rfl) (fun _ _ _ h => h) (.inl ⟨by kernel_rfl, fun w9 hS => by kernel_rfl⟩) RS1 ?_
      refine wpAnyH_take (i := 7) (v := .int .i64 1) rfl (by kernel_rfl) (by kernel_rfl) (by kernel_rfl) (fun _ _ _ h => h) (.inl ⟨by kernel_rfl, fun w9 hS => by kernel_rfl⟩) RS1 ?_
      refine wpAnyH_take (i := 8) (v := .bool true) rfl (by kernel_rfl) (by kernel_rfl) (by kernel_rfl) (fun _ _ _ h => h) (.inl ⟨by kernel_rfl, fun w9 hS => by go_simp⟩) RS1 ?_
      refine wpAnyH_take (i := 9) (v := .bool true) rfl (by kernel_rfl) (by kernel_rfl) (by kernel_rfl) (fun _ _ _ h => h) (.inl ⟨by kernel_rfl, fun w9 hS => by kernel_rfl⟩) RS1 ?_
      refine wpAnyH_take (i := 10) (v := .bool true) rfl (by kernel_rfl) (by kernel_rfl) (by kernel_rfl) (fun _ _ _ h => h) (.inl ⟨by kernel_rfl, fun w9 hS => by kernel_rfl⟩) RS1 ?_
      refine wpAnyH_take (i := 11) (v := .slice (some ⟨bx, offx, none⟩) 1 c5) rfl (by kernel_rfl) (by kernel_rfl) (by kernel_rfl) (fun _ _ _ h => h) (.inl ⟨by kernel_rfl, fun w9 hS => by kernel_rfl⟩) RS1 ?_
      refine wpAnyH_take (i := 12) (v := .pointer (some ⟨bx, offx, none⟩)) rfl (by kernel_rfl) (by kernel_rfl) (by kernel_rfl) (fun _ _ _ h => h) (.inl ⟨by kernel_rfl, fun w9 hS => by go_simp⟩) RS1 ?_
      refine wpAnyH_take (i := 13) (v := .agg #[.int .i64 e.k, .int .i64 e.t, .int .i64 e.a, .int .i64 e.b, .int .i64 e.c, .int .i64 e.p.q, .int .i64 e.p.i, .int .i64 e.p.h, .bool e.p.pair]) rfl (by kernel_rfl) (by kernel_rfl) (by kernel_rfl) (fun _ _ _ h => h) (.inl ⟨by kernel_rfl, fun w9 hS => by
            have y0 : w9.cell? ⟨bx, offx, none⟩ = some (.int .i64 e.k) := (Below.cell hS HBX.out).trans P0.out
            have y1 : w9.cell? ⟨bx, offx + 1, none⟩ = some (.int .i64 e.t) := (Below.cell hS HBX.out).trans P1.out
            have y2 : w9.cell? ⟨bx, offx + 2, none⟩ = some (.int .i64 e.a) := (Below.cell hS HBX.out).trans P2.out
            have y3 : w9.cell? ⟨bx, offx + 3, none⟩ = some (.int .i64 e.b) := (Below.cell hS HBX.out).trans P3.out
            have y4 : w9.cell? ⟨bx, offx + 4, none⟩ = some (.int .i64 e.c) := (Below.cell hS HBX.out).trans P4.out
            have y5 : w9.cell? ⟨bx, offx + 5, none⟩ = some (.int .i64 e.p.q) := (Below.cell hS HBX.out).trans P5.out
            have y6 : w9.cell? ⟨bx, offx + 6, none⟩ = some (.int .i64 e.p.i) := (Below.cell hS HBX.out).trans P6.out
            have y7 : w9.cell? ⟨bx, offx + 7, none⟩ = some (.int .i64 e.p.h) := (Below.cell hS HBX.out).trans P7.out
            have y8 : w9.cell? ⟨bx, offx + 8, none⟩ = some (.bool e.p.pair) := (Below.cell hS HBX.out).trans P8.out
            go_simp⟩) RS1 ?_
      refine wpAnyH_take (i := 14) (v := .agg #[.int .i64 e.k, .int .i64 e.t, .int .i64 e.a, .int .i64 e.b, .int .i64 e.c, .int .i64 e.p.q, .int .i64 e.p.i, .int .i64 e.p.h, .bool e.p.pair]) rfl (by kernel_rfl) (by kernel_rfl) (by kernel_rfl) (fun _ _ _ h => h) (.inl ⟨by kernel_rfl, fun w9 hS => by
            have y0 : w9.cell? ⟨w.heap.size, 0, none⟩ = some (.int .i64 e.k) := (KE7.out.below hS KE7.out.lt).cell 0
            have y1 : w9.cell? ⟨w.heap.size, 1, none⟩ = some (.int .i64 e.t) := (KE7.out.below hS KE7.out.lt).cell 1
            have y2 : w9.cell? ⟨w.heap.size, 2, none⟩ = some (.int .i64 e.a) := (KE7.out.below hS KE7.out.lt).cell 2
            have y3 : w9.cell? ⟨w.heap.size, 3, none⟩ = some (.int .i64 e.b) := (KE7.out.below hS KE7.out.lt).cell 3
            have y4 : w9.cell? ⟨w.heap.size, 4, none⟩ = some (.int .i64 e.c) := (KE7.out.below hS KE7.out.lt).cell 4
            have y5 : w9.cell? ⟨w.heap.size, 5, none⟩ = some (.int .i64 e.p.q) := (KE7.out.below hS KE7.out.lt).cell 5
            have y6 : w9.cell? ⟨w.heap.size, 6, none⟩ = some (.int .i64 e.p.i) := (KE7.out.below hS KE7.out.lt).cell 6
            have y7 : w9.cell? ⟨w.heap.size, 7, none⟩ = some (.int .i64 e.p.h) := (KE7.out.below hS KE7.out.lt).cell 7
            have y8 : w9.cell? ⟨w.heap.size, 8, none⟩ = some (.bool e.p.pair) := (KE7.out.below hS KE7.out.lt).cell 8
            go_simp⟩) RS1 ?_
      refine wpAnyH_take (i := 15) (v := .bool true) rfl (by kernel_rfl) (by kernel_rfl) (by kernel_rfl) (fun _ _ _ h => h) (.inl ⟨by kernel_rfl, fun w9 hS => by go_simp⟩) RS1 ?_
      refine wpAnyH_take (i := 16) (v := .bool true) rfl (by kernel_rfl) (by kernel_rfl) (by kernel_rfl) (fun _ _ _ h => h) (.inl ⟨by kernel_rfl, fun w9 hS => by kernel_rfl⟩) RS1 ?_
      refine wpAnyH_take (i := 17) (v := .bool true) rfl (by kernel_rfl) (by kernel_rfl) (by kernel_rfl) (fun _ _ _ h => h) (.inl ⟨by kernel_rfl, fun w9 hS => by kernel_rfl⟩) RS1 ?_
      refine wpAnyH_take (i := 18) (v := .int .i64 f) rfl (by kernel_rfl) (by kernel_rfl) (by kernel_rfl) (fun _ _ _ h => h) (.inl ⟨by kernel_rfl, fun w9 hS => by kernel_rfl⟩) RS1 ?_
      refine wpAnyH_take (i := 19) (v := .pointer (some ⟨w.heap.size, 1, none⟩)) rfl (by kernel_rfl) (by kernel_rfl) (by kernel_rfl) (fun _ _ _ h => h) (.inl ⟨by kernel_rfl, fun w9 hS => by kernel_rfl⟩) RS1 ?_
      refine wpAnyH_take (i := 20) (v := .int .i64 e.t) rfl (by kernel_rfl) (by kernel_rfl) (by kernel_rfl) (fun _ _ _ h => h) (.inl ⟨by kernel_rfl, fun w9 hS => by
            have y1 : w9.cell? ⟨w.heap.size, 1, none⟩ = some (.int .i64 e.t) := (KE7.out.below hS KE7.out.lt).cell 1
            go_simp⟩) RS1 ?_
      refine wpAnyH_take (i := 21) (v := .bool false) rfl (by kernel_rfl) (by kernel_rfl) (by kernel_rfl) (fun _ _ _ h => h) (.inl ⟨by kernel_rfl, fun w9 hS => by go_simp⟩) RS1 ?_
      refine wpAnyH_take (i := 22) (v := .bool false) rfl (by kernel_rfl) (by kernel_rfl) (by kernel_rfl) (fun _ _ _ h => h) (.inl ⟨by kernel_rfl, fun w9 hS => by kernel_rfl⟩) RS1 ?_
      refine wpAnyH_take (i := 23) (v := .bool false) rfl (by kernel_rfl) (by kernel_rfl) (by kernel_rfl) (fun _ _ _ h => h) (.inl ⟨by kernel_rfl, fun w9 hS => by kernel_rfl⟩) RS1 ?_
      refine wpAnyH_take (i := 24) (v := .bool true) rfl (by kernel_rfl) (by kernel_rfl) (by kernel_rfl) (fun _ _ _ h => h) (.inl ⟨by kernel_rfl, fun w9 hS => by kernel_rfl⟩) RS1 ?_
      refine wpAnyH_take (i := 25) (v := .bool true) rfl (by kernel_rfl) (by kernel_rfl) (by kernel_rfl) (fun _ _ _ h => h) (.inl ⟨by kernel_rfl, fun w9 hS => by kernel_rfl⟩) RS1 ?_
      refine wpAnyH_take (i := 26) (v := .bool true) rfl (by kernel_rfl) (by kernel_rfl) (by kernel_rfl) (fun _ _ _ h => h) (.inl ⟨by kernel_rfl, fun w9 hS => by kernel_rfl⟩) RS1 ?_
      refine wpAnyH_take (i := 27) (v := .bool true) rfl (by kernel_rfl) (by kernel_rfl) (by kernel_rfl) (fun _ _ _ h => h) (.inl ⟨by kernel_rfl, fun w9 hS => by kernel_rfl⟩) RS1 ?_
      refine wpAnyH_done (by kernel_rfl) ?_ _
      simp only [List.getElem_toArray, List.getElem_cons_succ, List.getElem_cons_zero, put_some, List.setIfInBounds_toArray, List.set_cons_succ, List.set_cons_zero]
      have HB8 : Hid (Below w.heap.size w w8) := Zt HB7 RS1
      clear RS0 RS1
      go_wp2_with fail
      go_ret
      exact ⟨rfl, HB8.out⟩
end Go.Proofs.Ytebiogadkamgcaa
