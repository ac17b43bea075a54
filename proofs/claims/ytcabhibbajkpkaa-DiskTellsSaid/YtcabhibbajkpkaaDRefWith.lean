/-
  A walk of the document's with: a disk with another file at a place.
-/
import Derived.Test.YtcabhibbajkpkaaDRefSame
import Derived.Test.YtcabhibbajkpkaaDSync
namespace Go.Proofs.Ytcabhibbajkpkaa
open Go.RowKit

/-- The worlds: the disk's box, the file's, the result's. -/
def rbox (w : World) (k : Int) (a : Option Addr) (n c : Nat) (no : Int) (a1 : Option Addr) (n1 c1 : Nat) (s : Int) : World := dbox (fbox (dbox w k a n c) no a1 n1 c1 s) 0 none 0 0
theorem rb_size (w : World) (k : Int) (a : Option Addr) (n c : Nat) (no : Int) (a1 : Option Addr) (n1 c1 : Nat) (s : Int) : (rbox w k a n c no a1 n1 c1 s).heap.size = w.heap.size + 3 := by simp [rbox, dbox_size, fbox_size]
theorem rb_below (w : World) (k : Int) (a : Option Addr) (n c : Nat) (no : Int) (a1 : Option Addr) (n1 c1 : Nat) (s : Int) : Below w.heap.size w (rbox w k a n c no a1 n1 c1 s) :=
  (dbox_below w k a n c).trans (((fbox_below _ no a1 n1 c1 s).trans ((dbox_below _ 0 none 0 0).mono (fbox_below _ no a1 n1 c1 s).size)).mono (dbox_below w k a n c).size)
theorem rb_disk (w : World) (k : Int) (a : Option Addr) (n c : Nat) (no : Int) (a1 : Option Addr) (n1 c1 : Nat) (s : Int) : Blok (rbox w k a n c no a1 n1 c1 s) w.heap.size 24 #[.int .i64 k, .slice a n c] := ((dbox_blok w k a n c).alloc _).alloc _
theorem rb_file (w : World) (k : Int) (a : Option Addr) (n c : Nat) (no : Int) (a1 : Option Addr) (n1 c1 : Nat) (s : Int) : Blok (rbox w k a n c no a1 n1 c1 s) (w.heap.size + 1) 43 #[.int .i64 no, .slice a1 n1 c1, .int .i64 s] := by
  have := (fbox_blok (dbox w k a n c) no a1 n1 c1 s).alloc (.cells #[.int .i64 0, .slice none 0 0] 24)
  rwa [dbox_size] at this
theorem rb_res (w : World) (k : Int) (a : Option Addr) (n c : Nat) (no : Int) (a1 : Option Addr) (n1 c1 : Nat) (s : Int) : Blok (rbox w k a n c no a1 n1 c1 s) (w.heap.size + 1 + 1) 24 #[.int .i64 0, .slice none 0 0] := by
  have := dbox_blok (fbox (dbox w k a n c) no a1 n1 c1 s) 0 none 0 0
  rwa [fbox_size, dbox_size] at this
theorem flat_set3 (xs : List FP) (j : Nat) (h : j < xs.length) (no : Int) (a : Option Addr) (n c : Nat) (B : List Int) (s : Int) : (((FP.flat xs).set (j * 3) (.int .i64 no)).set (j * 3 + 1) (.slice a n c)).set (j * 3 + 2) (.int .i64 s) = FP.flat (xs.set j ⟨no, a, n, c, B, s⟩) := by
  obtain ⟨zs, x, r, rfl, hz⟩ : ∃ zs x r, xs = zs ++ x :: r ∧ zs.length = j := ⟨xs.take j, xs[j], xs.drop (j + 1), by rw [List.getElem_cons_drop, List.take_append_drop], by simp; omega⟩
  subst hz
  rw [List.set_append_right _ _ (Nat.le_refl _), Nat.sub_self, List.set_cons_zero, FP.flat_append, FP.flat_append]
  rw [List.set_append_right _ _ (by rw [FP.flat_len]; omega), List.set_append_right _ _ (by rw [FP.flat_len]; omega), List.set_append_right _ _ (by rw [FP.flat_len]; omega), FP.flat_len]
  congr 1
  rw [Nat.sub_self, show zs.length * 3 + 1 - zs.length * 3 = 1 by omega, show zs.length * 3 + 2 - zs.length * 3 = 2 by omega]
  rfl

set_option maxRecDepth 100000 in
set_option maxHeartbeats 400000 in
theorem refWith_any (P : Nat → Prop) (k : Int) (a : Option Addr) (n c j : Nat) (no : Int) (a1 : Option Addr) (n1 c1 : Nat) (L : List Int) (s : Int) (xs : List FP) (w : World) (hd : DiskIn w a n c xs) (hf : FP.ok w ⟨no, a1, n1, c1, L, s⟩) (hj : j < n) (h9 : n ≤ 1000)
    (hP : ∀ b, b < w.heap.size → P b → Far b a xs ∧ (L = [] ∨ ∀ y, a1 = some y → y.block ≠ b)) :
    Calls Try.prog 48 #[.agg #[.int .i64 k, .slice a n c], .int .i64 (j : Int), .agg #[.int .i64 no, .slice a1 n1 c1, .int .i64 s]] w (RetD P (k, (FP.files xs).set j (no, L, s)) w) := by
  have HBX := Lib.hid (rb_below w k a n c no a1 n1 c1 s)
  have KA := Lib.hid (rb_disk w k a n c no a1 n1 c1 s)
  have KF := Lib.hid (rb_file w k a n c no a1 n1 c1 s)
  have KR := Lib.hid (rb_res w k a n c no a1 n1 c1 s)
  have HSZ := Lib.hid (rb_size w k a n c no a1 n1 c1 s)
  have HD := Lib.hid hd
  have HF := Lib.hid hf
  have HP := Lib.hid hP
  have hcap := hd.caps
  have hml : maxLen ≤ 9223372036854775807 := by decide
  clear hd hf hP
  go_enter Try.func48, Try.ntmps48
  go_wp2_with (
    at_builtin
    refine wpList_append_files _ rfl _ _ rfl (rbox w k a n c no a1 n1 c1 s).heap.size _ 0 [] rfl (World.ownsRow_nil _ _ _ _) a n c xs rfl (HD.out.below HBX.out) (by omega) (Nat.le_refl _) ?_
    intro v' w2 hown' hgrow
    rw [Nat.zero_add, List.nil_append] at hown'
    have B2 : Below (rbox w k a n c no a1 n1 c1 s).heap.size (rbox w k a n c no a1 n1 c1 s) w2 := (Below.refl _ _).grown hgrow (Nat.le_refl _) (fun k ek => absurd (show (none : Option Nat) = some k from ek) (by simp))
    obtain ⟨g, cp, rfl, hBg, hgl⟩ := hown'.form (by omega)
    have hsz := HSZ.out
    have HO := Lib.hid hown'
    have KA2 := Lib.hid (KA.out.on B2)
    have KF2 := Lib.hid (KF.out.on B2)
    have KR2 := Lib.hid (KR.out.on B2)
    have HXL : Hid (xs.length = n) := Lib.hid HD.out.1
    obtain ⟨⟨nx, ax, mx, cx, Bx, sx⟩, hx⟩ : ∃ x, xs[j]? = some x := ⟨_, List.getElem?_eq_getElem (by rw [HXL.out]; exact hj)⟩
    obtain ⟨g0, g1, g2⟩ := FP.flat_at _ _ _ hx
    have q0 := (HO.out.cellAt (j * 3) (by omega)).trans g0
    have q1 := (HO.out.cellAt (j * 3 + 1) (by omega)).trans g1
    have q2 := (HO.out.cellAt (j * 3 + 2) (by omega)).trans g2
    have z0 := HO.out.frozenAt (j * 3)
    have z1 := HO.out.frozenAt (j * 3 + 1)
    have z2 := HO.out.frozenAt (j * 3 + 2)
    have HB2 := Lib.hid B2
    have hg1 := setCell_grown w2 g (j * 3) (.int .i64 no)
    have hg2 := setCell_grown (w2.setCell ⟨g, j * 3, none⟩ (.int .i64 no)) g (j * 3 + 1) (.slice a1 n1 c1)
    have hg3 := setCell_grown ((w2.setCell ⟨g, j * 3, none⟩ (.int .i64 no)).setCell ⟨g, j * 3 + 1, none⟩ (.slice a1 n1 c1)) g (j * 3 + 2) (.int .i64 s)
    have ne0 : w.heap.size ≠ g := by omega
    have ne1 : w.heap.size + 1 ≠ g := by omega
    have ne2 : w.heap.size + 1 + 1 ≠ g := by omega
    have f0 := fk0 KF2.out
    have f1 := fk1 KF2.out
    have f2 := fk2 KF2.out
    have KA3 := Lib.hid (((KA2.out.grown hg1 (by simp; exact ne0)).grown hg2 (by simp; exact ne0)).grown hg3 (by simp; exact ne0))
    have KR3 := Lib.hid (((KR2.out.grown hg1 (by simp; exact ne2)).grown hg2 (by simp; exact ne2)).grown hg3 (by simp; exact ne2))
    have k0 := dk0 KA3.out
    have r0 := dk0 KR3.out
    have r1 := dk1 KR3.out
    have y0 := KR3.out.frozen 0
    have y1 := KR3.out.frozen 1
    have HS1 := Lib.hid ((((HO.out.stored (j * 3) (.int .i64 no)).1).stored (j * 3 + 1) (.slice a1 n1 c1)).1.stored (j * 3 + 2) (.int .i64 s)).1
    have HB3 := Lib.hid (((HB2.out.setCell (p := ⟨g, j * 3, none⟩) hBg (.int .i64 no)).setCell (p := ⟨g, j * 3 + 1, none⟩) hBg (.slice a1 n1 c1)).setCell (p := ⟨g, j * 3 + 2, none⟩) hBg (.int .i64 s))
    clear hgrow hown' B2 g0 g1 g2 hx hg1 hg2 hg3)
  rw [flat_set3 xs j (by rw [HXL.out]; exact hj) no a1 n1 c1 L s] at HS1
  have hok : ∀ x ∈ xs.set j ⟨no, a1, n1, c1, L, s⟩, FP.ok w x := fun x hx => by
    rcases List.mem_or_eq_of_mem_set hx with h | rfl
    · exact HD.out.2.1.2.1 x h
    · exact HF.out
  obtain ⟨a', c', he, hfl, hz⟩ := own_files HS1.out (by rw [List.length_set]; exact HXL.out) (fun x hx => (hok x hx).below (HBX.out.trans (HB3.out.mono HBX.out.size)))
  simp only [Value.slice.injEq, true_and] at he
  obtain ⟨rfl, rfl⟩ := he
  refine bodyPost_ret (ret_disk (g := w.heap.size + 1 + 1) rfl k (some ⟨g, 0, none⟩) n cp (by kernel_rfl) KR3.out.put) (by kernel_rfl) ?_
  have hDI : DiskIn _ (some ⟨g, 0, none⟩) n cp (xs.set j ⟨no, a1, n1, c1, L, s⟩) := ⟨by rw [List.length_set]; exact HXL.out, hfl, hz⟩
  have hfx : Far (w.heap.size + 1 + 1) (some ⟨g, 0, none⟩) (xs.set j ⟨no, a1, n1, c1, L, s⟩) := by
    refine ⟨fun g' off e _ => by cases e; omega, fun x hx => ?_⟩
    rcases ((hok x hx).2.1).2.2 with h1 | ⟨g', off', he, hlt, _⟩
    · exact .inl h1
    · refine .inr fun y hy => ?_
      rw [he] at hy; cases hy
      show g' ≠ _
      omega
  refine ⟨some ⟨g, 0, none⟩, n, cp, _, rfl, Lib.hid ((hDI.set hfx 0 _).set hfx 1 _), Lib.hid ?_, Lib.hid fun b hb hpb => ⟨fun g' off e _ => by cases e; omega, fun x hx => ?_⟩, below_store (HBX.out.trans (HB3.out.mono HBX.out.size)) (by omega) _ _ _ _⟩
  · simp [FP.files, FP.file, List.map_set]
  · rcases List.mem_or_eq_of_mem_set hx with h | rfl
    · exact (HP.out b hb hpb).1.2 x h
    · exact (HP.out b hb hpb).2
end Go.Proofs.Ytcabhibbajkpkaa
