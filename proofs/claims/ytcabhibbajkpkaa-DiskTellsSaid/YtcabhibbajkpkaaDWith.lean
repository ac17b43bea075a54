/-
  Walk of moorings/disk.with: other files in place of some.
-/
import Derived.Test.YtcabhibbajkpkaaDSl
namespace Go.Proofs.Ytcabhibbajkpkaa
open Go.RowKit

theorem OwnIs.ret {k : Int} {l : List D.F} {w w' : World} {e : Ending} (h : OwnIs k l w e w') : RetD any (k, l) w e w' := by
  obtain ⟨a, n, c, ys, rfl, hn, hl, hr, ho, _, hb⟩ := h
  obtain ⟨a', c', he, hf, hz⟩ := own_files hr.out hn.out (fun y hy => (ho.out y hy).ok)
  simp only [Value.slice.injEq, true_and] at he
  obtain ⟨rfl, rfl⟩ := he
  refine ⟨a, n, c, ys, rfl, Lib.hid ⟨hn.out, hf, hz⟩, hl, Lib.hid fun b hlt _ => ⟨?_, fun x hx => .inr ?_⟩, hb⟩
  · rintro g off rfl _ rfl
    have := (hr.out.lt g rfl).1
    omega
  · rintro y hy rfl
    have := ((ho.out x hx).lt hy).1
    omega
theorem ownD_any (k : Int) (a : Option Addr) (n c : Nat) (xs : List FP) (w : World) (hd : DiskIn w a n c xs) (hs : D.small (FP.files xs)) :
    Calls Try.prog 42 #[.agg #[.int .i64 k, .slice a n c]] w (RetD any (k, FP.files xs) w) := (own_any k a n c xs w hd hs).mono fun _ _ h => h.ret

set_option maxRecDepth 100000 in
set_option maxHeartbeats 400000 in
theorem with_any (k : Int) (a : Option Addr) (n c : Nat) (p q : Nat) (al : Option Addr) (m cl : Nat) (xs ys : List FP) (w : World) (hd : DiskIn w a n c xs) (hy : DiskIn w al m cl ys) (hp : p ≤ n) (hq : q ≤ n) (h9 : n ≤ 14 ∧ m ≤ 14) (hs : D.small (FP.files (xs.take p ++ ys ++ xs.drop q))) :
    Calls Try.prog 46 #[.agg #[.int .i64 k, .slice a n c], .int .i64 (p : Int), .int .i64 (q : Int), .slice al m cl] w (RetD any (k, FP.files (xs.take p ++ ys ++ xs.drop q)) w) := by
  have HBX := Lib.hid (dbn_below w k a n c)
  have HD := Lib.hid hd
  have HY := Lib.hid hy
  have hcap := hd.caps
  have hml : maxLen ≤ 9223372036854775807 := by decide
  have hsl : ∀ w, (Instr.sliceAt 22 (.slice a n c) none (some (.int .i64 (p : Int))) (some (.int .i64 (p : Int)))).run Try.prog w = .ok (.slice (sl3 a 0 p) p p) w := fun w => sliceF_hm a w (Nat.le_refl p) (by omega)
  have KA := Lib.hid (dbn_arg w k a n c)
  have KR := Lib.hid (dbn_res w k a n c)
  have hP : DiskIn (dbn w k a n c) (sl3 a 0 p) p p (xs.take p) := by
    have := (HD.out.below HBX.out).part (l := 0) (h := p) (m := p) (Nat.zero_le _) hp (Nat.le_refl _) (by omega)
    simpa using this
  have hG : GrowF (dbn w k a n c) (dbn w k a n c) (.slice (sl3 a 0 p) p p) (xs.take p) := by
    have hl : (xs.take p).length = p := by simp [hd.1]; omega
    refine .inl ⟨sl3 a 0 p, ?_, ?_⟩ <;> rw [hl]
    exact hP
  obtain ⟨v1, w1, hrun, hG1, hB1, row1, hrow1, hrow2⟩ := appendF_run 22 hG (Below.refl _ _) (HY.out.below HBX.out) (by have := hP.1; omega)
  have HG1 := Lib.hid hG1
  clear hd hy hP hG hG1
  go_enter Try.func46, Try.ntmps46
  go_wp2_with (at_builtin; refine wpList_append_run (v' := v1) (w' := w1) rfl rfl rfl rfl hrun ?_)
  have KA1 := Lib.hid (KA.out.on hB1)
  have KR1 := Lib.hid (KR.out.on hB1)
  refine wp_region_held (S := fun w' => w'.cell? ⟨w.heap.size, 0, none⟩ = some (.int .i64 k) ∧ w'.cell? ⟨w.heap.size, 1, none⟩ = some (.slice a n c)) (by kernel_rfl) ?_
  change wpAnyH _ _ _ _ _ _ _ _ (World.drew w1)
  have HS0 : (fun w' : World => w'.cell? ⟨w.heap.size, 0, none⟩ = some (.int .i64 k) ∧ w'.cell? ⟨w.heap.size, 1, none⟩ = some (.slice a n c)) (World.drew w1) := ⟨dk0 KA1.out, dk1 KA1.out⟩
  obtain ⟨a1, c1, rfl, hd1⟩ := HG1.out.disk (fun x hx => by
    rcases List.mem_append.1 hx with hx | hx
    · exact (((HD.out.below HBX.out).below hB1).2.1.2.1 x (List.mem_of_mem_take hx))
    · exact (((HY.out.below HBX.out).below hB1).2.1.2.1 x hx))
  refine wpAnyH_take (i := 0) (v := (.pointer (some ⟨w.heap.size, 0, none⟩))) rfl (by kernel_rfl) (by kernel_rfl) (by kernel_rfl) (fun _ _ _ h => h) (.inl ⟨by kernel_rfl, fun w9 hS => by kernel_rfl⟩) HS0 ?_
  refine wpAnyH_take (i := 1) (v := (.int .i64 k)) rfl (by kernel_rfl) (by kernel_rfl) (by kernel_rfl) (fun _ _ _ h => h) (.inl ⟨by kernel_rfl, fun w9 hS => by have c := hS.1; go_simp⟩) HS0 ?_
  refine wpAnyH_take (i := 2) (v := (.slice a1 (xs.take p ++ ys).length c1)) rfl (by kernel_rfl) (by kernel_rfl) (by kernel_rfl) (fun _ _ _ h => h) (.inl ⟨by kernel_rfl, fun w9 hS => by kernel_rfl⟩) HS0 ?_
  refine wpAnyH_take (i := 3) (v := (.pointer (some ⟨w.heap.size, 1, none⟩))) rfl (by kernel_rfl) (by kernel_rfl) (by kernel_rfl) (fun _ _ _ h => h) (.inl ⟨by kernel_rfl, fun w9 hS => by kernel_rfl⟩) HS0 ?_
  refine wpAnyH_take (i := 4) (v := (.slice a n c)) rfl (by kernel_rfl) (by kernel_rfl) (by kernel_rfl) (fun _ _ _ h => h) (.inl ⟨by kernel_rfl, fun w9 hS => by have c := hS.2; go_simp⟩) HS0 ?_
  refine wpAnyH_take (i := 5) (v := (.int .i64 (q : Int))) rfl (by kernel_rfl) (by kernel_rfl) (by kernel_rfl) (fun _ _ _ h => h) (.inl ⟨by kernel_rfl, fun w9 hS => by kernel_rfl⟩) HS0 ?_
  refine wpAnyH_take (i := 6) (v := (.slice (sl3 a q c) (n - q) (c - q))) rfl (by kernel_rfl) (by kernel_rfl) (by kernel_rfl) (fun _ _ _ h => h) (.inl ⟨by kernel_rfl, fun w9 hS => exec_sliceF_l rfl (by kernel_rfl) (by kernel_rfl) hq w9⟩) HS0 ?_
  have hQ : DiskIn (World.drew w1) (sl3 a q c) (n - q) (c - q) (xs.drop q) := by
    have h1 := ((HD.out.below HBX.out).below hB1.drew).part (l := q) (h := n) (m := c) hq (Nat.le_refl _) hcap.1 (Nat.le_refl _)
    rwa [List.take_of_length_le (by rw [HD.out.1]; exact Nat.le_refl _)] at h1
  obtain ⟨v2, w2, hrun2, hG2, hB2, row2, hrow3, hrow4⟩ := appendF_run (w0 := dbn w k a n c) (w := World.drew w1) 22 (HG1.out.below (below_drew w1)) hB1.drew hQ (by have h1 := HD.out.1; have h2 := HY.out.1; simp; omega)
  have KA2 := Lib.hid (KA.out.on hB2)
  have KR2 := Lib.hid (KR.out.on hB2)
  obtain ⟨a2, c2, rfl, hd2⟩ := hG2.disk (fun x hx => by
    rcases List.mem_append.1 hx with hx | hx
    · rcases List.mem_append.1 hx with hx | hx
      · exact (((HD.out.below HBX.out).below hB2).2.1.2.1 x (List.mem_of_mem_take hx))
      · exact (((HY.out.below HBX.out).below hB2).2.1.2.1 x hx)
    · exact (((HD.out.below HBX.out).below hB2).2.1.2.1 x (List.mem_of_mem_drop hx)))
  have HS2 : (fun w' : World => w'.cell? ⟨w.heap.size, 0, none⟩ = some (.int .i64 k) ∧ w'.cell? ⟨w.heap.size, 1, none⟩ = some (.slice a n c)) w2 := ⟨dk0 KA2.out, dk1 KA2.out⟩
  refine wpAnyH_one (i := 7) (by kernel_rfl) (wpOp_value (w' := w2) (v := .slice a2 (xs.take p ++ ys ++ xs.drop q).length c2) rfl (by kernel_rfl) (exec_append rfl (by kernel_rfl) (by kernel_rfl) hrun2) ⟨HS2, ?_⟩)
  refine wpAnyH_take (i := 8) (v := (.agg #[.int .i64 k, .slice a2 (xs.take p ++ ys ++ xs.drop q).length c2])) rfl (by kernel_rfl) (by kernel_rfl) (by kernel_rfl) (fun _ _ _ h => h) (.inl ⟨by kernel_rfl, fun w9 hS => by kernel_rfl⟩) HS2 ?_
  refine wpAnyH_call (i := 9) (f := 42) (args := #[.agg #[.int .i64 k, .slice a2 (xs.take p ++ ys ++ xs.drop q).length c2]]) (by kernel_rfl) rfl (by kernel_rfl) (by kernel_rfl) (ownD_any k a2 _ c2 _ w2 hd2 hs) ?_
  rintro e w3 ⟨a3, n3, c3, zs, rfl, HD3, HF3, HX3, hb3⟩
  have KA3 := Lib.hid (KA2.out.on hb3)
  have KR3 := Lib.hid (KR2.out.on hb3)
  have B3 := Lib.hid (HBX.out.trans ((hB2.trans (hb3.mono hB2.size)).mono HBX.out.size))
  have HS3 : (fun w' : World => w'.cell? ⟨w.heap.size, 0, none⟩ = some (.int .i64 k) ∧ w'.cell? ⟨w.heap.size, 1, none⟩ = some (.slice a n c)) w3 := ⟨dk0 KA3.out, dk1 KA3.out⟩
  refine ⟨_, rfl, HS3, ?_⟩
  have r0 := dk0 KR3.out
  have r1 := dk1 KR3.out
  have f0 := KR3.out.frozen 0
  have f1 := KR3.out.frozen 1
  have hsz : w.heap.size + 2 ≤ w2.heap.size := by have := hB2.size; rw [dbn_size] at this; exact this
  have hfar : Far (w.heap.size + 1) a3 zs := HX3.out _ (by omega) trivial
  have hfb : ∀ b, b < w.heap.size → Far b a3 zs := fun b hb => HX3.out b (by omega) trivial
  have ke := KA3.out.grown (setCell_grown w3 (w.heap.size + 1) 0 (.int .i64 k)) (by simp)
  have ke2 := ke.grown (setCell_grown _ (w.heap.size + 1) 1 (.slice a3 n3 c3)) (by simp)
  have HS4 : (fun w' : World => w'.cell? ⟨w.heap.size, 0, none⟩ = some (.int .i64 k) ∧ w'.cell? ⟨w.heap.size, 1, none⟩ = some (.slice a n c)) ((w3.setCell ⟨w.heap.size + 1, 0, none⟩ (.int .i64 k)).setCell ⟨w.heap.size + 1, 1, none⟩ (.slice a3 n3 c3)) := ⟨dk0 ke2, dk1 ke2⟩
  refine wpAnyH_one (i := 10) (by kernel_rfl) (wpOp_skip (w' := (w3.setCell ⟨w.heap.size + 1, 0, none⟩ (.int .i64 k)).setCell ⟨w.heap.size + 1, 1, none⟩ (.slice a3 n3 c3)) rfl (by kernel_rfl) (by go_simp) ⟨HS4, ?_⟩)
  refine wpAnyH_done (by kernel_rfl) ?_ _
  clear HS0 HS2 HS3 HS4 r0 r1 f0 f1 ke ke2 hrun hrun2 hb3
  go_wp2
  refine bodyPost_ret (ret_disk (g := w.heap.size + 1) rfl k a3 n3 c3 (by kernel_rfl) KR3.out.put) (by kernel_rfl) ?_
  exact ⟨a3, n3, c3, zs, rfl, Lib.hid ((HD3.out.set hfar 0 _).set hfar 1 _), Lib.hid (HF3.out.trans (by simp)), Lib.hid fun b hb _ => hfb b hb, below_store B3.out (Nat.le_succ _) _ _ _ _⟩
theorem with_at (k : Int) (a : Option Addr) (n c : Nat) (p q : Nat) (p' q' : Int) (al : Option Addr) (m cl : Nat) (xs ys : List FP) (w : World) (hp' : p' = (p : Int)) (hq' : q' = (q : Int)) (hd : DiskIn w a n c xs) (hy : DiskIn w al m cl ys) (hp : p ≤ n) (hq : q ≤ n) (h9 : n ≤ 14 ∧ m ≤ 14) (hs : D.small (FP.files (xs.take p ++ ys ++ xs.drop q))) :
    Calls Try.prog 46 #[.agg #[.int .i64 k, .slice a n c], .int .i64 p', .int .i64 q', .slice al m cl] w (RetD any (k, FP.files (xs.take p ++ ys ++ xs.drop q)) w) := by
  subst hp' hq'
  exact with_any k a n c p q al m cl xs ys w hd hy hp hq h9 hs
theorem dbn_on {w w' : World} {k : Int} {a : Option Addr} {n c : Nat} (h : Below (dbn w k a n c).heap.size (dbn w k a n c) w') : Below w.heap.size w w' := (dbn_below w k a n c).trans (h.mono (dbn_below w k a n c).size)
theorem dbn_lt {w w' : World} {k : Int} {a : Option Addr} {n c : Nat} (h : Below (dbn w k a n c).heap.size (dbn w k a n c) w') : w.heap.size + 2 ≤ w'.heap.size := by have := h.size; rw [dbn_size] at this; exact this
end Go.Proofs.Ytcabhibbajkpkaa
