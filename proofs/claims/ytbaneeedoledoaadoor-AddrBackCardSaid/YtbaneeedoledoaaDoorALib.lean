/-
  The library's functions that addresses call, in the form that the walks take: strconv.Itoa at a byte, strings.SplitN, Cut, Join; what they ask of the world ('Laid').
-/
import Derived.Test.YtbaneeedoledoaaDoorShelf
import Derived.Test.YtbaneeedoledoaaDoorKit
import Derived.Test.YtbaneeedoledoaaDoorAMath
import Derived.Lib.AppendIntMem
namespace Go.Proofs.YtbaneeedoledoaaDoor
open Go.RowKit Go.Lib

/-- What the library's two variables hold. -/
def Laid (w : World) : Prop := (∃ m, w.cell? ⟨0, 0, none⟩ = some (.int .i64 m)) ∧ Lib.TabIs Tryd.prog w "internal/strconv.uint64pow10" .u64 Lib.pow10Tab
theorem gPow : Tryd.prog.globalNamed "internal/strconv.uint64pow10" = some 1 := by kernel_rfl

theorem tabIs_of_block {P : Program} {w w' : World} {name : String} {k : IntKind} {zs : List Int} {g : Nat} (hg : P.globalNamed name = some g) (hb : Below w.heap.size w w') (h : TabIs P w name k zs) : TabIs P w' name k zs := by
  unfold TabIs World.var? at *
  rw [hg] at h ⊢
  simp only [Option.bind_some] at h ⊢
  cases hw : w.heap[g]? with
  | none => rw [hw] at h; simp at h
  | some o =>
    rw [hb.block g (Array.getElem?_eq_some_iff.1 hw).1]
    exact h
theorem Laid.below {w w' : World} (h : Laid w) (hb : Below w.heap.size w w') : Laid w' := by
  obtain ⟨⟨m, hm⟩, ht⟩ := h
  exact ⟨⟨m, (hb.cell (p := ⟨0, 0, none⟩) (World.block_lt_of_cell? (a := ⟨0, 0, none⟩) _ hm)).trans hm⟩, tabIs_of_block gPow hb ht⟩

/-- The string of bytes. -/
def str (l : List UInt8) : ByteArray := ⟨l.toArray⟩
theorem str_data (l : List UInt8) : (str l).data.toList = l := rfl
theorem str_size (l : List UInt8) : (str l).size = l.length := rfl
theorem str_of (s : ByteArray) : str s.data.toList = s := by cases s; rfl
theorem str_inj {l m : List UInt8} (h : str l = str m) : l = m := by
  have := congrArg (fun s : ByteArray => s.data.toList) h
  exact this
theorem str_append (l m : List UInt8) : str l ++ str m = str (l ++ m) := by
  apply ByteArray.ext; simp [str]
theorem str_eq (l m : List UInt8) : ((str l).toList == (str m).toList) = decide (l = m) := by
  rw [ByteArray.toList_eq, ByteArray.toList_eq, Bool.eq_iff_iff, beq_iff_eq, decide_eq_true_iff]
  exact Iff.rfl

theorem itoa_any (n : Nat) (hn : n ≤ 100000) (w : World) (hL : Laid w) :
    Calls Tryd.prog 35 #[.int .i64 n] w fun e w' => e = .returned (.string (str (A.dg n))) ∧ Below w.heap.size w w' := by
  refine (Tryd.strconv_Itoa n (by omega) (by omega) w hL.2).mono ?_
  rintro e w' ⟨rfl, k, os, rfl⟩
  refine ⟨by rw [Lib.itoa_nonneg]; rfl, ?_⟩
  exact Go.Lib.below_grow _ w (Nat.le_refl _) k os
theorem itoa_at {x : Int} (n : Nat) (hx : x = n) (hn : n ≤ 100000) (w : World) (hL : Laid w) :
    Calls Tryd.prog 35 #[.int .i64 x] w fun e w' => e = .returned (.string (str (A.dg n))) ∧ Below w.heap.size w w' := by
  subst hx; exact itoa_any n hn w hL
end Go.Proofs.YtbaneeedoledoaaDoor
