import Derived.Test.YtnbkkjcmblfhpaaGreatP0
import Derived.Test.YtnbkkjcmblfhpaaGreatP23
import Derived.Test.YtnbkkjcmblfhpaaGreatP21
import Derived.Test.YtnbkkjcmblfhpaaGreatP22
import Derived.Test.YtnbkkjcmblfhpaaGreatP6
import Derived.Test.YtnbkkjcmblfhpaaGreatP13
import Derived.Test.YtnbkkjcmblfhpaaGreatP12
namespace Go.Proofs.YtnbkkjcmblfhpaaGreat
namespace D
theorem used_set : ∀ (l : List F) (i : Nat) (y : F), i < l.length -> used (l.set i y) + (l.getD i nof).2.1.length = used l + y.2.1.length
 | [], _, _, h => by simp at h
 | f :: l, 0, y, _ => by simp only [List.set_cons_zero, used_cons]; simp; omega
 | f :: l, i + 1, y, h => by
  have := used_set l i y (by simpa using h)
  simp only [List.set_cons_succ, used_cons, List.getD_cons_succ]
  omega
theorem sorted_map (l : List F) : sorted l ↔ (l.map (·.1)).Pairwise (· < ·) := by unfold sorted; rw [List.pairwise_map]
theorem may_set {d : T} {i : Nat} {y : F} (hm : may d) (hi : i < d.2.length) (hn : y.1 = (d.2.getD i nof).1) (hf : fine y) (hu : (used (d.2.set i y) : Int) <= d.1) : may (d.1, d.2.set i y) := by
 refine ⟨⟨hm.1.1, hm.1.2.1, by simpa using hm.1.2.2⟩, fun f hf' => ?_, ?_, hu⟩
 ·rcases List.mem_or_eq_of_mem_set hf' with h | rfl
  ·exact hm.2.1 f h
  ·exact hf
 ·have h1 := hm.2.2.1
  rw [sorted_map] at h1 ⊢
  rw [List.map_set, hn]
  have : (d.2.map (·.1)).set i (d.2.getD i nof).1 = d.2.map (·.1) := by
   rw [getD_lt hi]
   apply List.ext_getElem?
   intro j
   rw [List.getElem?_set]
   by_cases hj : i = j
   ·subst hj; simp [hi]
   ·simp [hj]
  rw [this]
  exact h1
theorem sorted_sub {l m : List F} (h : l.Sublist m) (hs : sorted m) : sorted l := List.Pairwise.sublist h hs
theorem used_sub : ∀ {l m : List F}, l.Sublist m -> used l <= used m
 | _, _, .slnil => Nat.le_refl _
 | _, _, .cons a h => by rw [used_cons]; have := used_sub h; omega
 | _, _, .cons_cons a h => by rw [used_cons, used_cons]; have := used_sub h; omega
theorem two_filters (no : Int) : ∀ l : List F, used (l.filter (fun f => decide (f.1 < no))) + used (l.filter (fun f => decide (no < f.1))) <= used l /\ (l.filter (fun f => decide (f.1 < no))).length + (l.filter (fun f => decide (no < f.1))).length <= l.length
 | [] => by simp [used]
 | f :: l => by
  obtain ⟨h1, h2⟩ := two_filters no l
  by_cases a : f.1 < no
  ·have b : ¬ no < f.1 := by omega
   simp only [List.filter_cons, a, b, decide_true, decide_false, if_true, used_cons, List.length_cons]
   constructor
   ·simp only [Bool.false_eq_true, if_false]; omega
   ·simp only [Bool.false_eq_true, if_false]; omega
  ·by_cases b : no < f.1
   ·simp only [List.filter_cons, a, b, decide_true, decide_false, if_true, used_cons, List.length_cons, Bool.false_eq_true, if_false]
    omega
   ·simp only [List.filter_cons, a, b, decide_false, used_cons, List.length_cons, Bool.false_eq_true, if_false]
    omega
theorem may_parts {d : T} {no : Int} {A B : List F} (hm : may d) (hn : 1 <= no /\ no <= 1073741824) (h12 : d.2.length ≠ 12) (hA : A.Sublist d.2) (hB : B.Sublist d.2) (ha : ∀ f ∈ A, f.1 < no) (hb : ∀ f ∈ B, no < f.1) (h1 : used A + used B <= used d.2) (h2 : A.length + B.length <= d.2.length) : may (d.1, A ++ (no, [], 0) :: B) := by
 refine ⟨⟨hm.1.1, hm.1.2.1, ?_⟩, fun f hf => ?_, ?_, ?_⟩
 ·have h5 := hm.1.2.2
  show (A ++ (no, [], 0) :: B).length <= 12
  rw [List.length_append, List.length_cons]
  omega
 ·rcases List.mem_append.1 hf with h | h
  ·exact hm.2.1 f (hA.subset h)
  ·rcases List.mem_cons.1 h with rfl | h
   ·exact ⟨hn.1, hn.2, Int.le_refl _, by simp⟩
   ·exact hm.2.1 f (hB.subset h)
 ·unfold sorted
  refine List.pairwise_append.2 ⟨sorted_sub hA hm.2.2.1, List.pairwise_cons.2 ⟨fun g hg => hb g hg, sorted_sub hB hm.2.2.1⟩, fun f hf g hg => ?_⟩
  have e1 := ha f hf
  rcases List.mem_cons.1 hg with rfl | hg
  ·exact e1
  ·have e2 := hb g hg
   omega
 ·have h3 := hm.2.2.2
  show ((used (A ++ (no, [], 0) :: B) : Nat) : Int) <= d.1
  rw [used_append, used_cons]
  have h4 : ((no, [], 0) : F).2.1.length = 0 := rfl
  rw [h4]
  omega
theorem may_make {d : T} {no : Int} (hm : may d) (hn : 1 <= no /\ no <= 1073741824) (h12 : d.2.length ≠ 12) : may (d.1, d.2.filter (fun f => decide (f.1 < no)) ++ (no, [], 0) :: d.2.filter (fun f => decide (no < f.1))) :=
 may_parts hm hn h12 List.filter_sublist List.filter_sublist (fun f hf => by simpa using (List.mem_filter.1 hf).2) (fun f hf => by simpa using (List.mem_filter.1 hf).2) (two_filters no d.2).1 (two_filters no d.2).2
theorem drop_sub (l : List F) (i : Nat) : (l.take i ++ l.drop (i + 1)).Sublist l := by
 conv => rhs; rw [<- List.take_append_drop i l]
 refine List.Sublist.append (List.Sublist.refl _) ?_
 rw [show l.drop (i + 1) = (l.drop i).drop 1 by rw [List.drop_drop]]
 exact List.drop_sublist _ _
theorem left_len (f : F) (keep : Int) (hf : fine f) : f.2.2.toNat <= (left f keep).length /\ (left f keep).length <= f.2.1.length := by
 have h1 := hf.2.2.1
 have h2 := hf.2.2.2
 unfold left
 rw [List.length_take]
 have : kept keep (f.2.1.length - f.2.2.toNat) <= f.2.1.length - f.2.2.toNat := by unfold kept; split; omega; split <;> omega
 omega
theorem torn_len (b : List Int) (s : Nat) : (torn b s).length = b.length := by simp [torn]
theorem after_len (f : F) (keep t : Int) : (after f keep t).2.1.length = (left f keep).length := by
 unfold after; simp only; split
 ·rfl
 ·exact torn_len _ _
theorem crashed_map : ∀ (l : List F) (ps : List Int), (crashed l ps).map (·.1) = l.map (·.1)
 | [], _ => rfl
 | f :: l, ps => by
  rw [crashed]
  split
  ·simp [crashed_map l ps]
  ·simp [crashed_map l (ps.drop 2), after]
theorem crashed_used : ∀ (l : List F) (ps : List Int), (∀ f ∈ l, fine f) -> used (crashed l ps) <= used l
 | [], _, _ => Nat.le_refl _
 | f :: l, ps, h => by
  rw [crashed]
  split
  ·rw [used_cons, used_cons]; have := crashed_used l ps (fun g hg => h g (by simp [hg])); omega
  ·rw [used_cons, used_cons, after_len]
   have h1 := crashed_used l (ps.drop 2) (fun g hg => h g (by simp [hg]))
   have h2 := (left_len f (ps.getD 0 0) (h f (by simp))).2
   omega
theorem crashed_fine : ∀ (l : List F) (ps : List Int), (∀ f ∈ l, fine f) -> ∀ f ∈ crashed l ps, fine f
 | [], _, _, f, hf => by simp [crashed] at hf
 | g :: l, ps, h, f, hf => by
  rw [crashed] at hf
  split at hf
  ·rcases List.mem_cons.1 hf with rfl | hf
   ·exact h f (by simp)
   ·exact crashed_fine l ps (fun g hg => h g (by simp [hg])) f hf
  ·rcases List.mem_cons.1 hf with rfl | hf
   ·have hg := h g (by simp)
    refine ⟨hg.1, hg.2.1, ?_, ?_⟩
    ·show (0 : Int) <= ((left g (ps.getD 0 0)).length : Int); omega
    ·rw [after_len]; exact Int.le_refl _
   ·exact crashed_fine l (ps.drop 2) (fun g hg => h g (by simp [hg])) f hf
theorem crashed_len (l : List F) (ps : List Int) : (crashed l ps).length = l.length := by
 have := congrArg List.length (crashed_map l ps)
 simpa using this
theorem may_crash (d : T) (ps : List Int) (hm : may d) : may (d.1, crashed d.2 ps) := by
 refine ⟨⟨hm.1.1, hm.1.2.1, by simpa [crashed_len] using hm.1.2.2⟩, crashed_fine d.2 ps hm.2.1, ?_, ?_⟩
 ·have h := hm.2.2.1
  rw [sorted_map] at h ⊢
  simpa [crashed_map] using h
 ·have h1 := crashed_used d.2 ps hm.2.1
  have h2 := hm.2.2.2
  simp only
  omega
theorem may_upd {d : T} {no : Int} {g : F -> Int × F} (hm : may d) (hg : ∀ f, fine f -> (g f).1 = 0 -> (g f).2.1 = f.1 /\ fine (g f).2 /\ (used d.2 : Int) + (g f).2.2.1.length <= d.1 + f.2.1.length) : may (upd d no g).1 := by
 unfold upd
 rw [if_pos hm]
 cases hi : idx d.2 no with
 | none => exact hm
 | some i =>
  simp only
  split
  ·rename_i h0
   obtain ⟨h1, _⟩ := idx_some hi
   have hf : fine (d.2.getD i nof) := by rw [getD_lt h1]; exact hm.2.1 _ (List.getElem_mem h1)
   obtain ⟨h2, h3, h4⟩ := hg _ hf h0
   refine may_set hm h1 h2 h3 ?_
   have h5 := used_set d.2 i (g (d.2.getD i nof)).2 h1
   omega
  ·exact hm
theorem op_may (k no n : Int) (b ps : List Int) (d : T) : may (op k no n b ps d).1 ↔ may d := by
 by_cases hm : may d
 ·refine iff_of_true ?_ hm
  have hu := hm.2.2.2
  unfold op
  split
  ·unfold make
   split
   ·rename_i h1
    split
    ·exact hm
    ·split
     ·exact hm
     ·rename_i h3; exact may_make hm h1.2 h3
   ·exact hm
  ·split
   ·refine may_upd hm fun f hf h0 => ?_
    split at h0
    ·simp at h0
    ·rename_i h1
     rw [if_neg h1]
     refine ⟨rfl, ⟨hf.1, hf.2.1, hf.2.2.1, ?_⟩, ?_⟩
     ·have := hf.2.2.2; simp only [List.length_append]; omega
     ·simp only [List.length_append]; omega
   ·split
    ·refine may_upd hm fun f hf h0 => ⟨rfl, ⟨hf.1, hf.2.1, ?_, ?_⟩, ?_⟩
     ·show (0 : Int) <= (f.2.1.length : Int); omega
     ·exact Int.le_refl _
     ·simp only; omega
    ·split
     ·refine may_upd hm fun f hf h0 => ?_
      split at h0
      ·simp at h0
      ·rename_i h1
       rw [if_neg h1]
       have hl : (f.2.1.take n.toNat).length = n.toNat := by simp; omega
       refine ⟨rfl, ⟨hf.1, hf.2.1, ?_, ?_⟩, ?_⟩
       ·show (0 : Int) <= n; omega
       ·show n <= ((f.2.1.take n.toNat).length : Int); omega
       ·show (used d.2 : Int) + ((f.2.1.take n.toNat).length : Int) <= d.1 + f.2.1.length; omega
     ·split
      ·unfold drop
       rw [if_pos hm]
       cases hi : idx d.2 no with
       | none => exact hm
       | some i =>
        have hs := drop_sub d.2 i
        refine ⟨⟨hm.1.1, hm.1.2.1, Nat.le_trans hs.length_le hm.1.2.2⟩, fun f hf => hm.2.1 f (hs.subset hf), sorted_sub hs hm.2.2.1, ?_⟩
        have := used_sub hs
        simp only
        omega
      ·unfold crash
       rw [if_pos hm]
       exact may_crash d ps hm
 ·refine iff_of_false (fun h => hm ?_) hm
  have : (op k no n b ps d).1 = d := by
   unfold op make write sync cut drop crash upd
   simp only [if_neg hm, if_neg (fun h : may d /\ 1 <= no /\ no <= 1073741824 => hm h.1)]
   repeat (split; rfl)
   rfl
  rwa [this] at h
end D
end Go.Proofs.YtnbkkjcmblfhpaaGreat
namespace Go.Proofs.YtnbkkjcmblfhpaaGreat
namespace D
theorem small_may {d : T} (hm : may d) : small d.2 := by
 have h1 := hm.1.2.2
 have h2 := hm.2.2.2
 have h3 := hm.1.2.1
 refine ⟨by omega, fun f hf => ?_⟩
 have h4 : f.2.1.length <= used d.2 := by
  obtain ⟨s, t, h⟩ := List.append_of_mem hf
  rw [h, used_append, used_cons]; omega
 omega
end D
end Go.Proofs.YtnbkkjcmblfhpaaGreat
namespace Go.Proofs.YtnbkkjcmblfhpaaGreat
set_option maxHeartbeats 1000000
set_option maxRecDepth 100000
open Go.RowKit
namespace G
def fv (B : Nat) : Nat -> Value
 | 0 => .func (.func 42) #[.pointer (some ⟨B, 0, none⟩)] #[]
 | 1 => .func (.func 43) #[.pointer (some ⟨B, 0, none⟩)] #[]
 | _ => .func (.func 44) #[.pointer (some ⟨B, 0, none⟩)] #[]
theorem step_ok {no : Int} {b : List Int} {j : Nat} {d : D.T} (h : (step no b j d).2 = 0) : D.may d := by
 by_cases hm : D.may d
 ·exact hm
 ·have e1 : D.make d no = (d, 1) := by unfold D.make; rw [if_neg (fun h => hm h.1)]
  have e2 : ∀ g, D.upd d no g = (d, 1) := fun g => by unfold D.upd; rw [if_neg hm]
  match j, h with
  | 0, h => rw [show step no b 0 d = D.make d no from rfl, e1] at h; cases h
  | 1, h => rw [show step no b 1 d = D.write d no b from rfl, D.write, e2] at h; cases h
  | j + 2, h => rw [show step no b (j + 2) d = D.sync d no from rfl, D.sync, e2] at h; cases h
theorem step_may {no : Int} {b : List Int} {j : Nat} {d : D.T} (h : D.may d) : D.may (step no b j d).1 := by
 match j with
 | 0 => exact (D.op_may 0 no 0 b [] d).2 h
 | 1 => exact (D.op_may 1 no 0 b [] d).2 h
 | j + 2 => exact (D.op_may 2 no 0 b [] d).2 h
theorem row_grown {k : IntKind} {w w' : World} {a : Option Addr} {cap g : Nat} {L : List Int} (h : zfv k w a cap L) (hne : ∀ x, a = some x -> x.block ≠ g) (hg : w.grownBy w' (some g)) : zfv k w' a cap L := by
 refine ⟨h.1, h.2.1, ?_⟩
 rcases h.2.2 with h0 | ⟨b, off, ha, hlt, hc⟩
 ·exact .inl h0
 ·exact .inr ⟨b, off, ha, Nat.lt_of_lt_of_le hlt hg.size, fun i hi => (hg.cell_far ⟨b, off + i, none⟩ hlt (fun e => hne _ ha (by simpa using e))).trans (hc i hi)⟩
end G
theorem zxq (B F j0 N : Nat) (h3 : j0 + N = 3) (hN : 2 <= N) (k0 : Int) (a0 : Option Addr) (n0 c0 : Nat) (no : Int) (ab : Option Addr) (mb cb : Nat) (bb : List Int) (xs : List FP) (r : D.T × Int) (w : World) (hk : Blok w B 87 #[.int .i64 k0, .slice a0 n0 c0, .int .i64 no, .slice ab mb cb]) (hd : zf0 w a0 n0 c0 xs) (hs : D.small (FP.files xs)) (hbl : bb.length = mb) (hbr : zfv .u8 w ab cb bb) (hbz : ab = none -> mb = 0 /\ cb = 0) (hbn : ∀ x, ab = some x -> x.block ≠ B)
  (hF : F < w.heap.size /\ F ≠ B) (hc : ∀ i, i < N -> w.cell? ⟨F, i, none⟩ = some (G.fv B (j0 + i))) (hr : G.steps no bb j0 (k0, FP.files xs) = r) :
  Calls Tryz.prog 41 #[.slice (some ⟨F, 0, none⟩) N N] w (G.RetP B no (.slice ab mb cb) r w) := by
 have HK := Zh hk
 have HD0 := Zh hd
 have HS0 := Zh hs
 have HR := Zh (And.intro hbl (And.intro hbr (And.intro hbz hbn)))
 have HF : Hid (F < w.heap.size /\ F ≠ B /\ True) := Zh ⟨hF.1, hF.2, trivial⟩
 have HC := Zh hc
 have HE0 := Zh hr
 clear hk hd hs hbl hbr hbz hbn hF hc hr
 go_enter Tryz.func41, Tryz.ntmps41
 go_wp2_with fail
 go_loopg [8] N (fun g i wr => ∃ (m : Nat) (k : Int) (a : Option Addr) (n c : Nat) (ys : List FP), i = .int .i64 m /\ m + g = N /\ Hid (Blok wr B 87 #[.int .i64 k, .slice a n c, .int .i64 no, .slice ab mb cb]) /\ Hid (zf0 wr a n c ys) /\ Hid (D.small (FP.files ys)) /\ Hid (G.steps no bb (j0 + m) (k, FP.files ys) = r) /\ Hid (m = 0 \/ ∀ b, b < w.heap.size -> dFar b a ys) /\ Hid (w.grownBy wr (some B)))
 case atStart => exact ⟨0, k0, a0, n0, c0, xs, rfl, by omega, HK, HD0, HS0, HE0, Zh (.inl rfl), Zh (World.grownBy.refl w _)⟩
 case round =>
  obtain ⟨m, k, a, n, c, ys, rfl, hmg, KB, HD, HS, HE, HX, HG⟩ := hrel
  by_cases hlt : m < N
  ·have d1 : decide ((m : Int) < (N : Int)) = true := by simp; omega
   have m0 : (0 : Int) <= m := by omega
   have m1 : (m : Int) < N := by omega
   obtain hj | hj | hj : j0 + m = 0 \/ j0 + m = 1 \/ j0 + m = 2 := by omega
   ·have hc : wr.cell? ⟨F, m, none⟩ = some (.func (.func 42) #[.pointer (some ⟨B, 0, none⟩)] #[]) := (HG.out.cell_far ⟨F, m, none⟩ HF.out.1 (fun e => HF.out.2.1 (by simpa using e))).trans (by rw [HC.out m hlt, hj]; rfl)
    obtain ⟨⟨⟨k2, f2⟩, er⟩, hst⟩ : ∃ x, G.step no bb 0 (k, FP.files ys) = x := ⟨_, rfl⟩
    have hp := zyd B k a n c no ab mb cb bb ys wr KB.out HD.out HS.out HR.out.1 (G.row_grown HR.out.2.1 HR.out.2.2.2 HG.out) HR.out.2.2.1
    rw [show D.make (k, FP.files ys) no = G.step no bb 0 (k, FP.files ys) from rfl, hst] at hp
    rw [hj] at HE
    have HST := Zh hst
    clear hst
    go_wp2_with fail
    refine hp.mono ?_
    rintro e w1 ⟨a2, n2, c2, zs, rfl, KB1, HD1, HF1, HX1, hg1⟩
    have HG1 := Zh (HG.out.trans hg1)
    have HX2 : Hid (∀ b, b < w.heap.size -> dFar b a2 zs) := Zh (fun b hb => HX1.out b (Nat.lt_of_lt_of_le hb HG.out.size))
    clear hp hc hg1
    by_cases he : er = 0
    ·subst he
     have HN : Hid (G.steps no bb (0 + 1) (k2, FP.files zs) = r) := Zh (by rw [<- HE.out, G.steps_yes (by decide) HST.out]; exact congrArg (fun l => G.steps no bb (0 + 1) (k2, l)) HF1.out)
     have HS2 : Hid (D.small (FP.files zs)) := Zh (by
      have h1 := G.step_may (no := no) (b := bb) (j := 0) (G.step_ok (no := no) (b := bb) (j := 0) (d := (k, FP.files ys)) (by rw [HST.out]))
      rw [HST.out] at h1
      have h2 := D.small_may h1
      rw [<- (HF1.out : FP.files zs = f2)] at h2
      exact h2)
     go_wp2
     go_roundg (N - (m + 1))
     case rel => exact ⟨m + 1, k2, a2, n2, c2, zs, by go_num, by omega, KB1, HD1, HS2, (by rw [show j0 + (m + 1) = 0 + 1 by omega]; exact HN), Zh (.inr HX2.out), HG1⟩
     case measure => omega
    ·have e1 : (er != 0) = true := by simpa using he
     have HN : Hid (((k2, f2), er) = r) := Zh (by rw [<- HE.out]; exact (G.steps_no (by decide) HST.out he).symm)
     go_wp2
     go_ret
     have hn := HN.out
     subst hn
     exact ⟨a2, n2, c2, zs, rfl, KB1, HD1, HF1, HX2, HG1.out⟩
   ·have hc : wr.cell? ⟨F, m, none⟩ = some (.func (.func 43) #[.pointer (some ⟨B, 0, none⟩)] #[]) := (HG.out.cell_far ⟨F, m, none⟩ HF.out.1 (fun e => HF.out.2.1 (by simpa using e))).trans (by rw [HC.out m hlt, hj]; rfl)
    obtain ⟨⟨⟨k2, f2⟩, er⟩, hst⟩ : ∃ x, G.step no bb 1 (k, FP.files ys) = x := ⟨_, rfl⟩
    have hp := zxp B k a n c no ab mb cb bb ys wr KB.out HD.out HS.out HR.out.1 (G.row_grown HR.out.2.1 HR.out.2.2.2 HG.out) HR.out.2.2.1
    rw [show D.write (k, FP.files ys) no bb = G.step no bb 1 (k, FP.files ys) from rfl, hst] at hp
    rw [hj] at HE
    have HST := Zh hst
    clear hst
    go_wp2_with fail
    refine hp.mono ?_
    rintro e w1 ⟨a2, n2, c2, zs, rfl, KB1, HD1, HF1, HX1, hg1⟩
    have HG1 := Zh (HG.out.trans hg1)
    have HX2 : Hid (∀ b, b < w.heap.size -> dFar b a2 zs) := Zh (fun b hb => HX1.out b (Nat.lt_of_lt_of_le hb HG.out.size))
    clear hp hc hg1
    by_cases he : er = 0
    ·subst he
     have HN : Hid (G.steps no bb (1 + 1) (k2, FP.files zs) = r) := Zh (by rw [<- HE.out, G.steps_yes (by decide) HST.out]; exact congrArg (fun l => G.steps no bb (1 + 1) (k2, l)) HF1.out)
     have HS2 : Hid (D.small (FP.files zs)) := Zh (by
      have h1 := G.step_may (no := no) (b := bb) (j := 1) (G.step_ok (no := no) (b := bb) (j := 1) (d := (k, FP.files ys)) (by rw [HST.out]))
      rw [HST.out] at h1
      have h2 := D.small_may h1
      rw [<- (HF1.out : FP.files zs = f2)] at h2
      exact h2)
     go_wp2
     go_roundg (N - (m + 1))
     case rel => exact ⟨m + 1, k2, a2, n2, c2, zs, by go_num, by omega, KB1, HD1, HS2, (by rw [show j0 + (m + 1) = 1 + 1 by omega]; exact HN), Zh (.inr HX2.out), HG1⟩
     case measure => omega
    ·have e1 : (er != 0) = true := by simpa using he
     have HN : Hid (((k2, f2), er) = r) := Zh (by rw [<- HE.out]; exact (G.steps_no (by decide) HST.out he).symm)
     go_wp2
     go_ret
     have hn := HN.out
     subst hn
     exact ⟨a2, n2, c2, zs, rfl, KB1, HD1, HF1, HX2, HG1.out⟩
   ·have hc : wr.cell? ⟨F, m, none⟩ = some (.func (.func 44) #[.pointer (some ⟨B, 0, none⟩)] #[]) := (HG.out.cell_far ⟨F, m, none⟩ HF.out.1 (fun e => HF.out.2.1 (by simpa using e))).trans (by rw [HC.out m hlt, hj]; rfl)
    obtain ⟨⟨⟨k2, f2⟩, er⟩, hst⟩ : ∃ x, G.step no bb 2 (k, FP.files ys) = x := ⟨_, rfl⟩
    have hp := zye B k a n c no ab mb cb bb ys wr KB.out HD.out HS.out HR.out.1 (G.row_grown HR.out.2.1 HR.out.2.2.2 HG.out) HR.out.2.2.1
    rw [show D.sync (k, FP.files ys) no = G.step no bb 2 (k, FP.files ys) from rfl, hst] at hp
    rw [hj] at HE
    have HST := Zh hst
    clear hst
    go_wp2_with fail
    refine hp.mono ?_
    rintro e w1 ⟨a2, n2, c2, zs, rfl, KB1, HD1, HF1, HX1, hg1⟩
    have HG1 := Zh (HG.out.trans hg1)
    have HX2 : Hid (∀ b, b < w.heap.size -> dFar b a2 zs) := Zh (fun b hb => HX1.out b (Nat.lt_of_lt_of_le hb HG.out.size))
    clear hp hc hg1
    by_cases he : er = 0
    ·subst he
     have HN : Hid (G.steps no bb (2 + 1) (k2, FP.files zs) = r) := Zh (by rw [<- HE.out, G.steps_yes (by decide) HST.out]; exact congrArg (fun l => G.steps no bb (2 + 1) (k2, l)) HF1.out)
     have HS2 : Hid (D.small (FP.files zs)) := Zh (by
      have h1 := G.step_may (no := no) (b := bb) (j := 2) (G.step_ok (no := no) (b := bb) (j := 2) (d := (k, FP.files ys)) (by rw [HST.out]))
      rw [HST.out] at h1
      have h2 := D.small_may h1
      rw [<- (HF1.out : FP.files zs = f2)] at h2
      exact h2)
     go_wp2
     go_roundg (N - (m + 1))
     case rel => exact ⟨m + 1, k2, a2, n2, c2, zs, by go_num, by omega, KB1, HD1, HS2, (by rw [show j0 + (m + 1) = 2 + 1 by omega]; exact HN), Zh (.inr HX2.out), HG1⟩
     case measure => omega
    ·have e1 : (er != 0) = true := by simpa using he
     have HN : Hid (((k2, f2), er) = r) := Zh (by rw [<- HE.out]; exact (G.steps_no (by decide) HST.out he).symm)
     go_wp2
     go_ret
     have hn := HN.out
     subst hn
     exact ⟨a2, n2, c2, zs, rfl, KB1, HD1, HF1, HX2, HG1.out⟩
  ·have d1 : decide ((m : Int) < (N : Int)) = false := by simp; omega
   obtain rfl : m = N := by omega
   have HN : Hid (((k, FP.files ys), (0 : Int)) = r) := Zh (by rw [<- HE.out, h3]; rfl)
   have HX2 : Hid (∀ b, b < w.heap.size -> dFar b a ys) := Zh (by rcases HX.out with h | h; exact absurd h (by omega); exact h)
   go_wp2
   go_ret
   have hn := HN.out
   subst hn
   exact ⟨a, n, c, ys, rfl, KB, HD, Zh rfl, HX2, HG.out⟩
end Go.Proofs.YtnbkkjcmblfhpaaGreat
namespace Go.Proofs.YtnbkkjcmblfhpaaGreat
set_option maxHeartbeats 400000
set_option maxRecDepth 100000
open Go.RowKit
namespace G
theorem last_at {k : Int} {xs : List FP} {n : Nat} {x : FP} (hn : xs.length = n + 1) (hx : xs[n]? = some x) : last (k, FP.files xs) = x.no := by
 unfold last
 have h1 : (FP.files xs).getLast? = some (FP.file x) := by
  rw [List.getLast?_eq_getElem?]
  rw [FP.files_len, hn, Nat.add_sub_cancel]
  unfold FP.files
  rw [List.getElem?_map, hx]
  rfl
 simp only [h1]
 rfl
end G
theorem zwr (k : Int) (a : Option Addr) (n c : Nat) (xs : List FP) (w : World) (hd : zf0 w a n c xs) :
  Calls Tryz.prog 40 #[.agg #[.int .i64 k, .slice a n c]] w fun e w' => e = .returned (.int .i64 (G.last (k, FP.files xs))) /\ Below w.heap.size w w' := by
 have HB := Zh (zf2 w k a n c)
 have HD := Zh hd
 have hcap := hd.caps
 have hml : maxLen <= 9223372036854775807 := by decide
 have k1 := dk1 (zt2 w k a n c)
 clear hd
 cases n with
 | zero =>
  have HL : Hid (G.last (k, FP.files xs) = 0) := Zh (by rw [List.eq_nil_of_length_eq_zero HD.out.1]; rfl)
  go_enter Tryz.func40, Tryz.ntmps40
  go_wp2
  go_ret
  exact ⟨by rw [HL.out]; rfl, HB.out⟩
 | succ m =>
  obtain ⟨b, off, no, a', n', c', B, s, rfl, hlt, hx, p0, p1, p2, hok⟩ := (HD.out.below HB.out).2.1.at (i := m) (by rw [HD.out.1]; omega)
  have HL : Hid (G.last (k, FP.files xs) = no) := Zh (G.last_at HD.out.1 hx)
  clear hx hok
  unfold dbox at p0
  have e0 : ((m : Int) + 1 == 0) = false := by simp; omega
  have e1 : (m : Int) + 1 - 1 = (m : Int) := by omega
  have j0 : (0 : Int) <= m := by omega
  have j1 : (m : Int) < (m : Int) + 1 := by omega
  go_enter Tryz.func40, Tryz.ntmps40
  go_wp2
  go_ret
  exact ⟨by rw [HL.out]; rfl, HB.out⟩
end Go.Proofs.YtnbkkjcmblfhpaaGreat
namespace Go.Proofs.YtnbkkjcmblfhpaaGreat
open Go.RowKit
namespace J
open Y
end J
end Go.Proofs.YtnbkkjcmblfhpaaGreat
namespace Go.Proofs.YtnbkkjcmblfhpaaGreat
open Go.RowKit
end Go.Proofs.YtnbkkjcmblfhpaaGreat
namespace Go.Proofs.YtnbkkjcmblfhpaaGreat
open Go.RowKit
theorem zno (s : Y.St) (A : Y.A9) (b : List Int) (v : Bool) (hb : (J.put s).getD [] = b) (hv : (J.put s).isSome = v) (w : World) (h : Y.SIn w A s) (hf : Y.Fits A s) : Calls Tryz.prog 38 #[Y.val s A] w fun e w' => ∃ a c, e = .returned (.tuple #[.slice a b.length c, .bool v]) /\ Hid (zfv .u8 w' a c b) /\ Below w.heap.size w w' /\ (a = none -> b.length = 0 /\ c = 0) := by
 subst hb hv
 exact zn9 s A w h hf
theorem J.put_bd {s : Y.St} : ((J.put s).getD []).length <= 600 := by
 cases h : J.put s with
 | none => exact Nat.zero_le _
 | some b => have := J.zc7.1 h; rw [Option.getD_some, this.2]; exact J.bytes_len this.1.1
end Go.Proofs.YtnbkkjcmblfhpaaGreat
namespace Go.Proofs.YtnbkkjcmblfhpaaGreat
open Go.RowKit
theorem zm0 {P : Program} {o : Oper} {ρ : Operand -> Value} {w : World} {g : Nat} {t : TypeId} {old cells : Array Value} {x y : Operand} (hk : Blok w g t old) (ho : o.op = .store t x y) (hx : ρ x = .pointer (some ⟨g, 0, none⟩)) (hy : ρ y = .agg cells) (hi : (P.info? t).map (·.size) = some cells.size) (hs : old.size = cells.size) (h1 : cells.all (·.oneCell') = true) :
  (execOp ρ o).run P w = .ok .skip (w.setRow g cells) := by
 have h := zm3 (P := P) hk cells hi hs h1
 unfold execOp
 rw [ho]
 simp only [hx, hy, Sem.run_bind, h, Result.andThen]
 rfl
end Go.Proofs.YtnbkkjcmblfhpaaGreat
