import Derived.Shelf.Spec.SlicesInsertGrow
import Derived.Test.YtijkbflimbffmaaGreatP7
namespace Go.Proofs.YtijkbflimbffmaaGreat
set_option maxHeartbeats 1000000
set_option maxRecDepth 100000
open Go.RowKit Go.Shelf Go.Lib
theorem za9 {P : Program} (w : World) (dT sT ty elem : TypeId) (k q b o dLen dCap : Nat) (a : Addr) (sLen sCap : Nat) (cs : List Value)
  (hu : P.underlying dT = some (.slice elem)) (hs : (P.info? elem).map (·.size) = some k) (hq : q = Nat.min sLen dLen) (hn : cs.length = q * k)
  (hsrc : ∀ j v, cs[j]? = some v -> w.cell? (a.add j) = some v) (hc : ∀ j, j < cs.length -> (w.cell? ⟨b, o + j, none⟩).isSome = true) (hf : ∀ j, j < cs.length -> w.frozen? ⟨b, o + j, none⟩ = false) (h1 : ∀ v ∈ cs, v.oneCell' = true) :
  (Builtin.copy_ #[dT, sT] ty #[.slice (some ⟨b, o, none⟩) dLen dCap, .slice (some a) sLen sCap]).run P w = .ok (goInt q) (w.setCells b o cs) := by
 have hl := run_loadCells_list (P := P) w a cs hsrc
 have hst := run_storeCells_cells (P := P) b o cs 0 w (by simpa using hc) (by simpa using hf) h1
 rw [hn] at hl
 cases hi : P.info? elem with
 | none => simp [hi] at hs
 | some i =>
  have hi2 : i.size = k := by simpa [hi] using hs
  simp [Builtin.copy_, run_underlying hu, Builtin.lenOf, Builtin.firstCells, sizeOf, typeInfo, hi, hi2, <- hq, hl, hst]
theorem Blok.shape {w : World} {g : Nat} {t : TypeId} {cs : Array Value} (h : Blok w g t cs) : w.shape? g = some (t, cs.size) := by
 unfold World.shape?
 rw [show w.heap[g]? = _ from h]
theorem zda {α : Type} [L.Rec α] {w : World} {B g n c t k : Nat} {l : List α} (h : w.ownsRow B t k (.slice (some ⟨g, 0, none⟩) n c) n (L.flat l)) : B <= g /\ n <= c /\ c <= maxLen /\ ∃ rest : List Value, rest.length = c * k - n * k /\ Blok w g t (L.flat l ++ rest).toArray := by
 rcases h.2 with ⟨h0, _⟩ | ⟨g', cap, cur, he, hB, hg, h1, h2, h3, h4⟩
 ·simp at h0
 ·simp only [Value.slice.injEq, Option.some.injEq, Addr.mk.injEq, and_true, true_and] at he
  obtain ⟨rfl, rfl⟩ := he
  refine ⟨hB, h1, h2, cur.toList.drop (n * k), by simp [h3], ?_⟩
  rw [<- h4, List.take_append_drop]
  exact hg
theorem zdb {α : Type} [L.Rec α] {w : World} {B g n c t k : Nat} {l : List α} {rest : List Value} (h : Blok w g t (L.flat l ++ rest).toArray) (hk : (L.flat l).length = n * k) (hr : rest.length = c * k - n * k) (hB : B <= g) (hc : n <= c) (hm : c <= maxLen) : w.ownsRow B t k (.slice (some ⟨g, 0, none⟩) n c) n (L.flat l) := by
 have : n * k <= c * k := Nat.mul_le_mul_right k hc
 refine ⟨hk, .inr ⟨g, c, _, rfl, hB, h, hc, hm, by simp only [List.size_toArray, List.length_append, hk, hr]; omega, ?_⟩⟩
 show List.take _ (L.flat l ++ rest) = _
 rw [List.take_append_of_le_length (by rw [hk]; exact Nat.le_refl _), List.take_of_length_le (by rw [hk]; exact Nat.le_refl _)]
open Go.RowKit Go.Shelf Go.Lib
theorem zii (g n c i vb B : Nat) (tb : TypeId) (l : List L.Ls) (x : L.Ls) (w : World) (h : w.ownsRow B 60 5 (.slice (some ⟨g, 0, none⟩) n c) n (L.flat l)) (hl : l.length = n) (hi : i < n) (hroom : n + 1 <= c) (hvb : vb ≠ g) (hv : L.Bx w vb tb x) :
  Calls Tryz.prog 226 #[.slice (some ⟨g, 0, none⟩) n c, .int .i64 i, .slice (some ⟨vb, 0, none⟩) 1 1] w fun e w' => e = .returned (.slice (some ⟨g, 0, none⟩) (n + 1) c) /\ Hid (w'.ownsRow B 60 5 (.slice (some ⟨g, 0, none⟩) (n + 1) c) (n + 1) (L.flat (l.take i ++ x :: l.drop i))) /\ Hid (w.grownBy w' (some g)) := by
 obtain ⟨hBg, hnc, hcm, rest, hrl, hblk⟩ := zda h
 obtain ⟨P, hP⟩ : ∃ P, l.take i = P := ⟨_, rfl⟩
 obtain ⟨Q, hQ⟩ : ∃ Q, l.drop i = Q := ⟨_, rfl⟩
 have hPQ : l = P ++ Q := by rw [<- hP, <- hQ, List.take_append_drop]
 have hPl : P.length = i := by rw [<- hP]; simp; omega
 have hQl : Q.length = n - i := by rw [<- hQ]; simp; omega
 rw [hP, hQ]
 have fP : (L.flat P).length = i * 5 := by rw [L.flat_len5, hPl]
 have fQ : (L.flat Q).length = (n - i) * 5 := by rw [L.flat_len5, hQl]
 have K0 : Blok w g 60 (L.flat P ++ L.flat Q ++ rest).toArray := by rw [<- L.flat_append, <- hPQ]; exact hblk
 have hrc : 5 <= rest.length := by omega
 -- the first 5 cells of what stands behind i, and the rest
 obtain ⟨A, C, hAC, hA, hC⟩ : ∃ A C : List Value, L.flat Q ++ rest = A ++ C /\ A.length = 5 /\ C.length = (n - i) * 5 + rest.length - 5 := ⟨(L.flat Q ++ rest).take 5, (L.flat Q ++ rest).drop 5, (List.take_append_drop _ _).symm, by rw [List.length_take, List.length_append, fQ]; omega, by rw [List.length_drop, List.length_append, fQ]⟩
 obtain ⟨D, R, hDR, hD, hR⟩ : ∃ D R : List Value, C = D ++ R /\ D.length = (n - i) * 5 /\ R.length = rest.length - 5 := ⟨C.take ((n - i) * 5), C.drop ((n - i) * 5), (List.take_append_drop _ _).symm, by rw [List.length_take, hC]; omega, by rw [List.length_drop, hC]; omega⟩
 have K0' : Blok w.drew g 60 ((L.flat P ++ A) ++ D ++ R).toArray := by
  have := K0.drew
  rw [List.append_assoc, hAC, hDR] at this
  simpa using this
 have K1 := Blok.cellsAt (L.flat Q) D (L.flat P ++ A) R w.drew K0' (by rw [hD, fQ])
 have eo : (L.flat P ++ A).length = (i + 1) * 5 := by rw [List.length_append, fP, hA]; omega
 rw [eo] at K1
 obtain ⟨W1, hW1⟩ : ∃ W1, w.drew.setCells g ((i + 1) * 5) (L.flat Q) = W1 := ⟨_, rfl⟩
 rw [hW1] at K1
 have G1 : w.grownBy W1 (some g) := by rw [<- hW1]; exact (zbx (L.below_none (zaa w))).trans (zas _ _ _)
 have K1' : Blok W1 g 60 (L.flat P ++ A ++ (L.flat Q ++ R)).toArray := by simpa using K1
 have K2 := Blok.cellsAt (L.cells x) A (L.flat P) (L.flat Q ++ R) W1 K1' (by rw [hA, L.cells_len5])
 rw [fP] at K2
 obtain ⟨W2, hW2⟩ : ∃ W2, W1.setCells g (i * 5) (L.cells x) = W2 := ⟨_, rfl⟩
 rw [hW2] at K2
 have G2 : Hid (w.grownBy W2 (some g)) := Zh (G1.trans (by rw [<- hW2]; exact zas _ _ _))
 have HV1 : Blok W1 vb tb (L.cells x).toArray := Blok.grown hv G1 (by simpa using hvb)
 have HFIN : Hid (W2.ownsRow B 60 5 (.slice (some ⟨g, 0, none⟩) (n + 1) c) (n + 1) (L.flat (P ++ x :: Q))) := Zh (by
  refine zdb (rest := R) ?_ (by rw [L.flat_len5, List.length_append, List.length_cons, hPl, hQl]; omega) (by rw [hR, hrl]; omega) hBg hroom hcm
  rw [L.flat_append, L.flat_cons]; simpa using K2)
 have hsz : (Tryz.prog.info? 60).map (·.size) = some 5 := by
  obtain ⟨i0, hi0, _, h1, _⟩ := zay
  rw [hi0]; simp [h1]
 have hov : ∀ lb cb, (callFunc 266 #[.slice (some ⟨vb, 0, none⟩) 1 1, .slice (some ⟨g, (i + 1) * 5, none⟩) lb cb]).run Tryz.prog w = .ok (.value (.bool false)) w := fun lb cb => by
  rw [run_callFunc_extern (f := 266) (fn := Tryz.f266) rfl (by kernel_rfl) (by kernel_rfl) (by kernel_rfl) (e := Extern.SlicesOverlaps.overlaps #[29, 29] #[4]) (by kernel_rfl),
   Lib.run_overlaps_apart w 29 4 60 Tryz.underlying29 5 (fun w => by rfl) ⟨vb, 0, none⟩ ⟨g, (i + 1) * 5, none⟩ 1 1 lb cb hvb tb 60 _ _ (Blok.shape hv) (Blok.shape K0) (by simp only [List.size_toArray, List.length_append, fP, fQ]; omega) (Blok.frozen hv 0) (Blok.frozen hv _)]
  rfl
 have hcp1 : ∀ ty dc sc, (Builtin.copy_ #[29, 29] ty #[.slice (some ⟨g, (i + 1) * 5, none⟩) (n - i) dc, .slice (some ⟨g, i * 5, none⟩) (n + 1 - i) sc]).run Tryz.prog w.drew = .ok (goInt (n - i : Nat)) W1 := fun ty dc sc => by
  rw [<- hW1]
  exact za9 w.drew 29 29 ty 60 5 (n - i) g ((i + 1) * 5) _ dc ⟨g, i * 5, none⟩ _ sc (L.flat Q) Tryz.underlying29 hsz (by simp only [Nat.min_def]; split <;> omega) fQ
   (fun j v hj => by
    have hjl := (List.getElem?_eq_some_iff.1 hj).1
    rw [Addr.add_lit, K0.drew.cell, List.getElem?_toArray, List.append_assoc, List.getElem?_append_right (by rw [fP]; omega), fP, List.getElem?_append_left (by omega), <- hj]
    congr 1; omega)
   (fun j hj => by
    rw [K0.drew.cell, Array.getElem?_eq_getElem (by simp only [List.size_toArray, List.length_append, fP, fQ]; rw [fQ] at hj; omega)]; rfl)
   (fun j hj => K0.drew.frozen _) (L.flat_one Q)
 have hcp2 : ∀ ty dc, (Builtin.copy_ #[29, 29] ty #[.slice (some ⟨g, i * 5, none⟩) (n + 1 - i) dc, .slice (some ⟨vb, 0, none⟩) 1 1]).run Tryz.prog W1 = .ok (goInt (1 : Nat)) W2 := fun ty dc => by
  rw [<- hW2]
  exact za9 W1 29 29 ty 60 5 1 g (i * 5) _ dc ⟨vb, 0, none⟩ 1 1 (L.cells x) Tryz.underlying29 hsz (by simp only [Nat.min_def]; split <;> omega) (by rw [L.cells_len5])
   (fun j v hj => L.cell_one (t := tb) HV1 j v hj)
   (fun j hj => by
    rw [L.cells_len5] at hj
    rw [K1.cell, Array.getElem?_eq_getElem (by simp only [List.size_toArray, List.length_append, fP, fQ, hA]; omega)]; rfl)
   (fun j hj => K1.frozen _) (L.cells_one x)
 clear h hblk hPQ hPl hQl hP hQ K0 K0' K1 K1' K2 hAC hA hC hDR hD hR eo hW1 hW2 HV1 hv fP fQ hrl hrc G1
 have hz2 : ((i : Int) == (n : Int)) = false := by simp; omega
 have hw1 : IntKind.i64.wrap ((i : Int) + 1) = (i : Int) + 1 := by rw [IntKind.wrap_i64]; unfold maxLen at hcm; omega
 have hw2 : IntKind.i64.wrap ((n : Int) + 1) = (n : Int) + 1 := by rw [IntKind.wrap_i64]; unfold maxLen at hcm; omega
 have hb0 : (0 : Int) <= (i : Int) := by omega
 have hb1 : (0 : Int) <= (i : Int) + 1 := by omega
 have hin : i <= n := by omega
 have hic : i <= c := by omega
 have hin2 : (i : Int) <= (n : Int) := by omega
 have htn : ((i : Int) + 1).toNat = i + 1 := by omega
 have htn2 : ((n : Int) + 1).toNat = n + 1 := by omega
 have hb2 : ¬ (c = i + 1) := by omega
 have hb3 : (i : Int) <= (n : Int) + 1 := by omega
 have hb4 : ¬ (c = i) := by omega
 have hb5 : decide ((c : Int) < (n : Int) + 1) = false := by simp; omega
 have hb6 : (n : Int) + 1 <= (c : Int) := by omega
 go_enter Tryz.func226, Tryz.ntmps226
 go_wp2_with (simp only [hov])
 go_region_law (refine step_copy_runI rfl _ _ 29 29 rfl _ _ (by simp [Act.eval, Act.put]) (by simp [Act.eval, Act.put]) (hcp1 _ _ _) ?_)
 go_wp2_with (at_builtin; refine wpList_copy_runI _ rfl _ _ 29 29 rfl _ _ rfl rfl (hcp2 _ _) ?_)
 go_ret
 exact ⟨rfl, HFIN, G2⟩
theorem zj6 (v : Value) (n vb B : Nat) (tb : TypeId) (l : List L.Ls) (x : L.Ls) (w : World) (h : w.ownsRow B 60 5 v n (L.flat l)) (hn : n <= 1000) (hB : B <= w.heap.size) (hv : L.Bx w vb tb x) :
  Calls Tryz.prog 226 #[v, .int .i64 n, .slice (some ⟨vb, 0, none⟩) 1 1] w fun e w' => ∃ g c, e = .returned (.slice (some ⟨g, 0, none⟩) (n + 1) c) /\ Hid (w'.ownsRow B 60 5 (.slice (some ⟨g, 0, none⟩) (n + 1) c) (n + 1) (L.flat (l ++ [x]))) /\ Hid (w.grownBy w' v.ownBlock) := by
 have HO := Zh h
 have HV := Zh hv
 have hz2 : ((n : Int) == (n : Int)) = true := by simp
 have hb0 : (0 : Int) <= (n : Int) := by omega
 rcases h.2 with ⟨rfl, h0⟩ | ⟨g, cap, cur, rfl, hBg, hg, h1, h2, h3, h4⟩
 ·subst h0
  clear h hv
  go_enter Tryz.func226, Tryz.ntmps226
  go_wp2_with (at_builtin; refine zaw (α := L.Ls) rfl (.tmp 23) (.tmp 24) 29 60 rfl _ 40 Tryz.underlying29 zay rfl (by decide) B (.slice none 0 0) 0 l x (by simp [Act.eval]) HO.out vb tb (by simp [Act.eval]) HV.out (by omega) hB ?_; intro g cap w3 h1 h2 h3 h4; have H1 := Zh h1; have H2 := Zh h2; clear h1 h2 h3 h4)
  go_ret
  exact ⟨_, _, rfl, H1, H2⟩
 ·have hnc : (n : Int) <= (cap : Int) := by omega
  clear h hv hg h3 h4 h2
  go_enter Tryz.func226, Tryz.ntmps226
  go_wp2_with (at_builtin; refine zaw (α := L.Ls) rfl (.tmp 23) (.tmp 24) 29 60 rfl _ 40 Tryz.underlying29 zay rfl (by decide) B (.slice (some ⟨g, 0, none⟩) n cap) n l x (by simp [Act.eval]) HO.out vb tb (by simp [Act.eval]) HV.out (by omega) hB ?_; intro g' cap' w3 h1 h2 h3 h4; have H1 := Zh h1; have H2 := Zh h2; clear h1 h2 h3 h4)
  all_goals (
   go_ret
   exact ⟨_, _, rfl, H1, H2⟩)
theorem zij (g n c i vb B : Nat) (tb : TypeId) (l : List L.Ls) (x : L.Ls) (w : World) (h : w.ownsRow B 60 5 (.slice (some ⟨g, 0, none⟩) n c) n (L.flat l)) (hl : l.length = n) (hn : n <= 1000) (hi : i < n) (hroom : c < n + 1) (hB : B <= w.heap.size) (hv : L.Bx w vb tb x) :
  Calls Tryz.prog 226 #[.slice (some ⟨g, 0, none⟩) n c, .int .i64 i, .slice (some ⟨vb, 0, none⟩) 1 1] w fun e w' => ∃ g' c', e = .returned (.slice (some ⟨g', 0, none⟩) (n + 1) c') /\ Hid (w'.ownsRow B 60 5 (.slice (some ⟨g', 0, none⟩) (n + 1) c') (n + 1) (L.flat (l.take i ++ x :: l.drop i))) /\ Hid (w.grownBy w' (some g)) := by
 obtain ⟨hBg, hnc, hcm, rest, hrl, hblk⟩ := zda h
 obtain ⟨P, hP⟩ : ∃ P, l.take i = P := ⟨_, rfl⟩
 obtain ⟨Q, hQ⟩ : ∃ Q, l.drop i = Q := ⟨_, rfl⟩
 have hPQ : l = P ++ Q := by rw [<- hP, <- hQ, List.take_append_drop]
 have hPl : P.length = i := by rw [<- hP]; simp; omega
 have hQl : Q.length = n - i := by rw [<- hQ]; simp; omega
 rw [hP, hQ]
 have fP : (L.flat P).length = i * 5 := by rw [L.flat_len5, hPl]
 have fQ : (L.flat Q).length = (n - i) * 5 := by rw [L.flat_len5, hQl]
 have K0 : Blok w g 60 (L.flat P ++ L.flat Q ++ rest).toArray := by rw [<- L.flat_append, <- hPQ]; exact hblk
 have hgw : g < w.heap.size := K0.lt
 have hvw : vb < w.heap.size := Blok.lt hv
 obtain ⟨i0, hi0, hz0, hzs, hzb⟩ := zay
 have hsz : (Tryz.prog.info? 60).map (·.size) = some 5 := by rw [hi0]; simp [hzs]
 have hold : (Builtin.firstCells i0.size i (.slice (some ⟨g, 0, none⟩) i c)).run Tryz.prog w.drew = .ok (L.flat P).toArray w.drew := by
  rw [hzs]
  exact run_firstCells_some w.drew 5 i ⟨g, 0, none⟩ i c (L.flat P) fP (fun j v hj => by
   have hjl := (List.getElem?_eq_some_iff.1 hj).1
   rw [Addr.add_lit, K0.drew.cell, Nat.zero_add, List.getElem?_toArray, List.append_assoc, List.getElem?_append_left hjl]; exact hj)
 obtain ⟨G, hG⟩ : ∃ G, grownCap w (n + 1) c 60 = G := ⟨_, rfl⟩
 have hGn : n + 1 <= G := by rw [<- hG]; exact grownCap_ge w _ _ _
 have hGm : G <= maxLen := by rw [<- hG]; exact grownCap_le_maxLen w (n + 1) c 60 (by unfold maxLen; omega)
 obtain ⟨Z, hZ⟩ : ∃ Z : List Value, (Builtin.zeroCells (Value.agg #[.int .i64 0, .int .i64 0, .int .i64 0, .int .i64 0, .int .i64 0]).cells (n + 1 - i)).toList = Z := ⟨_, rfl⟩
 obtain ⟨Y, hY⟩ : ∃ Y : List Value, (Builtin.zeroCells (Value.agg #[.int .i64 0, .int .i64 0, .int .i64 0, .int .i64 0, .int .i64 0]).cells (G - (n + 1))).toList = Y := ⟨_, rfl⟩
 have hZl : Z.length = (n + 1 - i) * 5 := by rw [<- hZ]; simp [Builtin.zeroCells, Value.cells]
 have hYl : Y.length = (G - (n + 1)) * 5 := by rw [<- hY]; simp [Builtin.zeroCells, Value.cells]
 obtain ⟨W1, hW1⟩ : ∃ W, w.drew.alloc (.cells (L.flat P ++ Z ++ Y).toArray 60) = W := ⟨_, rfl⟩
 have hkk : (n : Int) + 1 - (i : Int) = ((n + 1 - i : Nat) : Int) := by omega
 have hik : i + (n + 1 - i) = n + 1 := by omega
 have hrz : ∀ ty, (Builtin.append_ #[29, 3] ty #[.slice (some ⟨g, 0, none⟩) i c, .int .i64 ((n : Int) + 1 - (i : Int))]).run Tryz.prog w = .ok (.slice (some ⟨w.heap.size, 0, none⟩) (n + 1) G) W1 := fun ty => by
  have hr := Lib.run_append_grow_zeros w 29 3 ty 60 i0 _ .i64 .i64 Tryz.underlying29 Tryz.underlying3 hi0 hz0 (some ⟨g, 0, none⟩) i c (L.flat P) hold (n + 1 - i) (by omega) (by rw [hzs]; decide) (by omega) (by omega) (by rw [hzb]; omega) (by rw [hzb, hik]; exact growslice_fits hroom (by omega))
  rw [hik, hG] at hr
  have he : ∀ z y : Array Value, (L.flat P).toArray ++ z ++ y = (L.flat P ++ z.toList ++ y.toList).toArray := fun z y => by apply Array.ext'; simp
  rw [hkk, hr, <- hW1, <- hZ, <- hY, he]
 have K1 : Blok W1 w.heap.size 60 (L.flat P ++ Z ++ Y).toArray := by rw [<- hW1]; exact Blok.new w.drew _ _
 have B1 : Below w.heap.size w W1 := by rw [<- hW1]; exact (Below.refl _ w).drew.alloc (Nat.le_refl _) _
 obtain ⟨A, D, hAD, hA, hD⟩ : ∃ A D : List Value, Z = A ++ D /\ A.length = 5 /\ D.length = (n - i) * 5 := ⟨Z.take 5, Z.drop 5, (List.take_append_drop _ _).symm, by rw [List.length_take, hZl]; omega, by rw [List.length_drop, hZl]; omega⟩
 have K1' : Blok W1 w.heap.size 60 (L.flat P ++ A ++ (D ++ Y)).toArray := by rw [hAD] at K1; simpa using K1
 have K2 := Blok.cellsAt (L.cells x) A (L.flat P) (D ++ Y) W1 K1' (by rw [hA, L.cells_len5])
 rw [fP] at K2
 obtain ⟨W2, hW2⟩ : ∃ W2, W1.setCells w.heap.size (i * 5) (L.cells x) = W2 := ⟨_, rfl⟩
 rw [hW2] at K2
 have B2 : Below w.heap.size w W2 := B1.grown (by rw [<- hW2]; exact zas _ _ _) B1.size (fun k hk => by cases hk; exact Nat.le_refl _)
 have K2' : Blok W2.drew w.heap.size 60 ((L.flat P ++ L.cells x) ++ D ++ Y).toArray := by have := K2.drew; simpa using this
 have K3 := Blok.cellsAt (L.flat Q) D (L.flat P ++ L.cells x) Y W2.drew K2' (by rw [hD, fQ])
 have eo : (L.flat P ++ L.cells x).length = (i + 1) * 5 := by rw [List.length_append, fP, L.cells_len5]; omega
 rw [eo] at K3
 obtain ⟨W3, hW3⟩ : ∃ W3, W2.drew.setCells w.heap.size ((i + 1) * 5) (L.flat Q) = W3 := ⟨_, rfl⟩
 rw [hW3] at K3
 have B3 : Below w.heap.size w W3 := B2.drew.grown (by rw [<- hW3]; exact zas _ _ _) B2.drew.size (fun k hk => by cases hk; exact Nat.le_refl _)
 have HFIN : Hid (W3.ownsRow B 60 5 (.slice (some ⟨w.heap.size, 0, none⟩) (n + 1) G) (n + 1) (L.flat (P ++ x :: Q))) := Zh (by
  refine zdb (rest := Y) ?_ (by rw [L.flat_len5, List.length_append, List.length_cons, hPl, hQl]; omega) (by rw [hYl]; omega) hB hGn hGm
  rw [L.flat_append, L.flat_cons]; simpa using K3)
 have HG3 : Hid (w.grownBy W3 (some g)) := Zh (zbx (L.below_none B3))
 have HV1 : L.Bx W1 vb tb x := Blok.below hv B1 hvw
 have KG2 : Blok W2.drew g 60 (L.flat P ++ L.flat Q ++ rest).toArray := (K0.below B2 hgw).drew
 have hcp1 : ∀ ty dc, (Builtin.copy_ #[29, 29] ty #[.slice (some ⟨w.heap.size, i * 5, none⟩) (n + 1 - i) dc, .slice (some ⟨vb, 0, none⟩) 1 1]).run Tryz.prog W1 = .ok (goInt (1 : Nat)) W2 := fun ty dc => by
  rw [<- hW2]
  exact za9 W1 29 29 ty 60 5 1 w.heap.size (i * 5) _ dc ⟨vb, 0, none⟩ 1 1 (L.cells x) Tryz.underlying29 hsz (by simp only [Nat.min_def]; split <;> omega) (by rw [L.cells_len5])
   (fun j v hj => L.cell_one (t := tb) HV1 j v hj)
   (fun j hj => by
    rw [L.cells_len5] at hj
    rw [K1.cell, Array.getElem?_eq_getElem (by simp only [List.size_toArray, List.length_append, fP, hZl]; omega)]; rfl)
   (fun j hj => K1.frozen _) (L.cells_one x)
 have hcp2 : ∀ ty dc sc, (Builtin.copy_ #[29, 29] ty #[.slice (some ⟨w.heap.size, (i + 1) * 5, none⟩) (n - i) dc, .slice (some ⟨g, i * 5, none⟩) (n - i) sc]).run Tryz.prog W2.drew = .ok (goInt (n - i : Nat)) W3 := fun ty dc sc => by
  rw [<- hW3]
  exact za9 W2.drew 29 29 ty 60 5 (n - i) w.heap.size ((i + 1) * 5) _ dc ⟨g, i * 5, none⟩ _ sc (L.flat Q) Tryz.underlying29 hsz (by simp only [Nat.min_def]; split <;> omega) fQ
   (fun j v hj => by
    have hjl := (List.getElem?_eq_some_iff.1 hj).1
    rw [Addr.add_lit, KG2.cell, List.getElem?_toArray, List.append_assoc, List.getElem?_append_right (by rw [fP]; omega), fP, List.getElem?_append_left (by omega), <- hj]
    congr 1; omega)
   (fun j hj => by
    rw [K2'.cell, Array.getElem?_eq_getElem (by simp only [List.size_toArray, List.length_append, fP, L.cells_len5, hD]; rw [fQ] at hj; omega)]; rfl)
   (fun j hj => K2'.frozen _) (L.flat_one Q)
 clear h hblk hPQ hPl hQl hP hQ K0 K1 K1' K2 K2' K3 hAD hA hD eo hW1 hW2 hW3 HV1 hv fP fQ hrl KG2 B1 B2 B3 hZ hY hZl hYl hold hkk hik hi0 hz0 hzs hzb hsz hG
 have hz2 : ((i : Int) == (n : Int)) = false := by simp; omega
 have hw1 : IntKind.i64.wrap ((i : Int) + 1) = (i : Int) + 1 := by rw [IntKind.wrap_i64]; omega
 have hw2 : IntKind.i64.wrap ((n : Int) + 1) = (n : Int) + 1 := by rw [IntKind.wrap_i64]; omega
 have hw3 : IntKind.i64.wrap ((n : Int) + 1 - (i : Int)) = (n : Int) + 1 - (i : Int) := by rw [IntKind.wrap_i64]; omega
 have hb0 : (0 : Int) <= (i : Int) := by omega
 have hb1 : (0 : Int) <= (i : Int) + 1 := by omega
 have hin : i <= n := by omega
 have hic : i <= c := by omega
 have hin2 : (i : Int) <= (n : Int) := by omega
 have hic2 : (i : Int) <= (c : Int) := by omega
 have hnc2 : (n : Int) <= (c : Int) := by omega
 have htn : ((i : Int) + 1).toNat = i + 1 := by omega
 have htn2 : ((n : Int) + 1).toNat = n + 1 := by omega
 have hb2 : ¬ (c = i + 1) \/ c = i + 1 := by omega
 have hb3 : (i : Int) <= (n : Int) + 1 := by omega
 have hb4 : ¬ (c = i) := by omega
 have hb5 : decide ((c : Int) < (n : Int) + 1) = true := by simp; omega
 have hb6 : ¬ (G = i) := by omega
 have hb7 : ¬ (G = i + 1) := by omega
 have hb8 : (i : Int) + 1 <= (n : Int) + 1 := by omega
 have hb9 : (n : Int) + 1 <= (G : Int) := by omega
 go_enter Tryz.func226, Tryz.ntmps226
 go_wp2_with (first
  | (at_builtin; refine Lib.wpList_append_run _ rfl _ _ _ _ rfl _ _ rfl rfl _ _ (hrz _) ?_)
  | (at_builtin; refine wpList_copy_runI _ rfl _ _ 29 29 rfl _ _ rfl rfl (hcp1 _ _) ?_))
 go_region_law (refine step_copy_runI rfl _ _ 29 29 rfl _ _ (by simp [Act.eval, Act.put]) (by simp [Act.eval, Act.put]) (hcp2 _ _ _) ?_)
 go_wp2
 go_ret
 exact ⟨_, _, rfl, HFIN, HG3⟩
theorem zgu (v : Value) (n i vb B : Nat) (tb : TypeId) (l : List L.Ls) (x : L.Ls) (w : World) (h : w.ownsRow B 60 5 v n (L.flat l)) (hl : l.length = n) (hn : n <= 1000) (hi : i <= n) (hB : B <= w.heap.size) (hv : L.Bx w vb tb x) (hvb : v.ownBlock ≠ some vb) :
  Calls Tryz.prog 226 #[v, .int .i64 i, .slice (some ⟨vb, 0, none⟩) 1 1] w fun e w' => ∃ g' c', e = .returned (.slice (some ⟨g', 0, none⟩) (n + 1) c') /\ Hid (w'.ownsRow B 60 5 (.slice (some ⟨g', 0, none⟩) (n + 1) c') (n + 1) (L.flat (l.take i ++ x :: l.drop i))) /\ Hid (w.grownBy w' v.ownBlock) := by
 by_cases he : i = n
 ·subst he
  rw [List.take_of_length_le (by omega), List.drop_eq_nil_of_le (by omega)]
  exact zj6 v i vb B tb l x w h hn hB hv
 ·rcases h.2 with ⟨rfl, h0⟩ | ⟨g, cap, cur, rfl, _⟩
  ·omega
  ·by_cases hr : n + 1 <= cap
   ·refine (zii g n cap i vb B tb l x w h hl (by omega) hr (fun e => hvb (by rw [e]; rfl)) hv).mono ?_
    rintro e w' ⟨rfl, h1, h2⟩
    exact ⟨_, _, rfl, h1, h2⟩
   ·exact zij g n cap i vb B tb l x w h hl hn (by omega) (by omega) hB hv
open Go.RowKit Go.Shelf Go.Lib
theorem zik (g n c i vb B : Nat) (tb : TypeId) (l : List L.T3) (x : L.T3) (w : World) (h : w.ownsRow B 77 3 (.slice (some ⟨g, 0, none⟩) n c) n (L.flat l)) (hl : l.length = n) (hi : i < n) (hroom : n + 1 <= c) (hvb : vb ≠ g) (hv : L.Bx w vb tb x) :
  Calls Tryz.prog 230 #[.slice (some ⟨g, 0, none⟩) n c, .int .i64 i, .slice (some ⟨vb, 0, none⟩) 1 1] w fun e w' => e = .returned (.slice (some ⟨g, 0, none⟩) (n + 1) c) /\ Hid (w'.ownsRow B 77 3 (.slice (some ⟨g, 0, none⟩) (n + 1) c) (n + 1) (L.flat (l.take i ++ x :: l.drop i))) /\ Hid (w.grownBy w' (some g)) := by
 obtain ⟨hBg, hnc, hcm, rest, hrl, hblk⟩ := zda h
 obtain ⟨P, hP⟩ : ∃ P, l.take i = P := ⟨_, rfl⟩
 obtain ⟨Q, hQ⟩ : ∃ Q, l.drop i = Q := ⟨_, rfl⟩
 have hPQ : l = P ++ Q := by rw [<- hP, <- hQ, List.take_append_drop]
 have hPl : P.length = i := by rw [<- hP]; simp; omega
 have hQl : Q.length = n - i := by rw [<- hQ]; simp; omega
 rw [hP, hQ]
 have fP : (L.flat P).length = i * 3 := by rw [L.flat_len3, hPl]
 have fQ : (L.flat Q).length = (n - i) * 3 := by rw [L.flat_len3, hQl]
 have K0 : Blok w g 77 (L.flat P ++ L.flat Q ++ rest).toArray := by rw [<- L.flat_append, <- hPQ]; exact hblk
 have hrc : 3 <= rest.length := by omega
 -- the first 3 cells of what stands behind i, and the rest
 obtain ⟨A, C, hAC, hA, hC⟩ : ∃ A C : List Value, L.flat Q ++ rest = A ++ C /\ A.length = 3 /\ C.length = (n - i) * 3 + rest.length - 3 := ⟨(L.flat Q ++ rest).take 3, (L.flat Q ++ rest).drop 3, (List.take_append_drop _ _).symm, by rw [List.length_take, List.length_append, fQ]; omega, by rw [List.length_drop, List.length_append, fQ]⟩
 obtain ⟨D, R, hDR, hD, hR⟩ : ∃ D R : List Value, C = D ++ R /\ D.length = (n - i) * 3 /\ R.length = rest.length - 3 := ⟨C.take ((n - i) * 3), C.drop ((n - i) * 3), (List.take_append_drop _ _).symm, by rw [List.length_take, hC]; omega, by rw [List.length_drop, hC]; omega⟩
 have K0' : Blok w.drew g 77 ((L.flat P ++ A) ++ D ++ R).toArray := by
  have := K0.drew
  rw [List.append_assoc, hAC, hDR] at this
  simpa using this
 have K1 := Blok.cellsAt (L.flat Q) D (L.flat P ++ A) R w.drew K0' (by rw [hD, fQ])
 have eo : (L.flat P ++ A).length = (i + 1) * 3 := by rw [List.length_append, fP, hA]; omega
 rw [eo] at K1
 obtain ⟨W1, hW1⟩ : ∃ W1, w.drew.setCells g ((i + 1) * 3) (L.flat Q) = W1 := ⟨_, rfl⟩
 rw [hW1] at K1
 have G1 : w.grownBy W1 (some g) := by rw [<- hW1]; exact (zbx (L.below_none (zaa w))).trans (zas _ _ _)
 have K1' : Blok W1 g 77 (L.flat P ++ A ++ (L.flat Q ++ R)).toArray := by simpa using K1
 have K2 := Blok.cellsAt (L.cells x) A (L.flat P) (L.flat Q ++ R) W1 K1' (by rw [hA, L.cells_len3])
 rw [fP] at K2
 obtain ⟨W2, hW2⟩ : ∃ W2, W1.setCells g (i * 3) (L.cells x) = W2 := ⟨_, rfl⟩
 rw [hW2] at K2
 have G2 : Hid (w.grownBy W2 (some g)) := Zh (G1.trans (by rw [<- hW2]; exact zas _ _ _))
 have HV1 : Blok W1 vb tb (L.cells x).toArray := Blok.grown hv G1 (by simpa using hvb)
 have HFIN : Hid (W2.ownsRow B 77 3 (.slice (some ⟨g, 0, none⟩) (n + 1) c) (n + 1) (L.flat (P ++ x :: Q))) := Zh (by
  refine zdb (rest := R) ?_ (by rw [L.flat_len3, List.length_append, List.length_cons, hPl, hQl]; omega) (by rw [hR, hrl]; omega) hBg hroom hcm
  rw [L.flat_append, L.flat_cons]; simpa using K2)
 have hsz : (Tryz.prog.info? 77).map (·.size) = some 3 := by
  obtain ⟨i0, hi0, _, h1, _⟩ := zbh
  rw [hi0]; simp [h1]
 have hov : ∀ lb cb, (callFunc 268 #[.slice (some ⟨vb, 0, none⟩) 1 1, .slice (some ⟨g, (i + 1) * 3, none⟩) lb cb]).run Tryz.prog w = .ok (.value (.bool false)) w := fun lb cb => by
  rw [run_callFunc_extern (f := 268) (fn := Tryz.f268) rfl (by kernel_rfl) (by kernel_rfl) (by kernel_rfl) (e := Extern.SlicesOverlaps.overlaps #[30, 30] #[4]) (by kernel_rfl),
   Lib.run_overlaps_apart w 30 4 77 Tryz.underlying30 3 (fun w => by rfl) ⟨vb, 0, none⟩ ⟨g, (i + 1) * 3, none⟩ 1 1 lb cb hvb tb 77 _ _ (Blok.shape hv) (Blok.shape K0) (by simp only [List.size_toArray, List.length_append, fP, fQ]; omega) (Blok.frozen hv 0) (Blok.frozen hv _)]
  rfl
 have hcp1 : ∀ ty dc sc, (Builtin.copy_ #[30, 30] ty #[.slice (some ⟨g, (i + 1) * 3, none⟩) (n - i) dc, .slice (some ⟨g, i * 3, none⟩) (n + 1 - i) sc]).run Tryz.prog w.drew = .ok (goInt (n - i : Nat)) W1 := fun ty dc sc => by
  rw [<- hW1]
  exact za9 w.drew 30 30 ty 77 3 (n - i) g ((i + 1) * 3) _ dc ⟨g, i * 3, none⟩ _ sc (L.flat Q) Tryz.underlying30 hsz (by simp only [Nat.min_def]; split <;> omega) fQ
   (fun j v hj => by
    have hjl := (List.getElem?_eq_some_iff.1 hj).1
    rw [Addr.add_lit, K0.drew.cell, List.getElem?_toArray, List.append_assoc, List.getElem?_append_right (by rw [fP]; omega), fP, List.getElem?_append_left (by omega), <- hj]
    congr 1; omega)
   (fun j hj => by
    rw [K0.drew.cell, Array.getElem?_eq_getElem (by simp only [List.size_toArray, List.length_append, fP, fQ]; rw [fQ] at hj; omega)]; rfl)
   (fun j hj => K0.drew.frozen _) (L.flat_one Q)
 have hcp2 : ∀ ty dc, (Builtin.copy_ #[30, 30] ty #[.slice (some ⟨g, i * 3, none⟩) (n + 1 - i) dc, .slice (some ⟨vb, 0, none⟩) 1 1]).run Tryz.prog W1 = .ok (goInt (1 : Nat)) W2 := fun ty dc => by
  rw [<- hW2]
  exact za9 W1 30 30 ty 77 3 1 g (i * 3) _ dc ⟨vb, 0, none⟩ 1 1 (L.cells x) Tryz.underlying30 hsz (by simp only [Nat.min_def]; split <;> omega) (by rw [L.cells_len3])
   (fun j v hj => L.cell_one (t := tb) HV1 j v hj)
   (fun j hj => by
    rw [L.cells_len3] at hj
    rw [K1.cell, Array.getElem?_eq_getElem (by simp only [List.size_toArray, List.length_append, fP, fQ, hA]; omega)]; rfl)
   (fun j hj => K1.frozen _) (L.cells_one x)
 clear h hblk hPQ hPl hQl hP hQ K0 K0' K1 K1' K2 hAC hA hC hDR hD hR eo hW1 hW2 HV1 hv fP fQ hrl hrc G1
 have hz2 : ((i : Int) == (n : Int)) = false := by simp; omega
 have hw1 : IntKind.i64.wrap ((i : Int) + 1) = (i : Int) + 1 := by rw [IntKind.wrap_i64]; unfold maxLen at hcm; omega
 have hw2 : IntKind.i64.wrap ((n : Int) + 1) = (n : Int) + 1 := by rw [IntKind.wrap_i64]; unfold maxLen at hcm; omega
 have hb0 : (0 : Int) <= (i : Int) := by omega
 have hb1 : (0 : Int) <= (i : Int) + 1 := by omega
 have hin : i <= n := by omega
 have hic : i <= c := by omega
 have hin2 : (i : Int) <= (n : Int) := by omega
 have htn : ((i : Int) + 1).toNat = i + 1 := by omega
 have htn2 : ((n : Int) + 1).toNat = n + 1 := by omega
 have hb2 : ¬ (c = i + 1) := by omega
 have hb3 : (i : Int) <= (n : Int) + 1 := by omega
 have hb4 : ¬ (c = i) := by omega
 have hb5 : decide ((c : Int) < (n : Int) + 1) = false := by simp; omega
 have hb6 : (n : Int) + 1 <= (c : Int) := by omega
 go_enter Tryz.func230, Tryz.ntmps230
 go_wp2_with (simp only [hov])
 go_region_law (refine step_copy_runI rfl _ _ 30 30 rfl _ _ (by simp [Act.eval, Act.put]) (by simp [Act.eval, Act.put]) (hcp1 _ _ _) ?_)
 go_wp2_with (at_builtin; refine wpList_copy_runI _ rfl _ _ 30 30 rfl _ _ rfl rfl (hcp2 _ _) ?_)
 go_ret
 exact ⟨rfl, HFIN, G2⟩
theorem zj7 (v : Value) (n vb B : Nat) (tb : TypeId) (l : List L.T3) (x : L.T3) (w : World) (h : w.ownsRow B 77 3 v n (L.flat l)) (hn : n <= 1000) (hB : B <= w.heap.size) (hv : L.Bx w vb tb x) :
  Calls Tryz.prog 230 #[v, .int .i64 n, .slice (some ⟨vb, 0, none⟩) 1 1] w fun e w' => ∃ g c, e = .returned (.slice (some ⟨g, 0, none⟩) (n + 1) c) /\ Hid (w'.ownsRow B 77 3 (.slice (some ⟨g, 0, none⟩) (n + 1) c) (n + 1) (L.flat (l ++ [x]))) /\ Hid (w.grownBy w' v.ownBlock) := by
 have HO := Zh h
 have HV := Zh hv
 have hz2 : ((n : Int) == (n : Int)) = true := by simp
 have hb0 : (0 : Int) <= (n : Int) := by omega
 rcases h.2 with ⟨rfl, h0⟩ | ⟨g, cap, cur, rfl, hBg, hg, h1, h2, h3, h4⟩
 ·subst h0
  clear h hv
  go_enter Tryz.func230, Tryz.ntmps230
  go_wp2_with (at_builtin; refine zaw (α := L.T3) rfl (.tmp 23) (.tmp 24) 30 77 rfl _ 24 Tryz.underlying30 zbh rfl (by decide) B (.slice none 0 0) 0 l x (by simp [Act.eval]) HO.out vb tb (by simp [Act.eval]) HV.out (by omega) hB ?_; intro g cap w3 h1 h2 h3 h4; have H1 := Zh h1; have H2 := Zh h2; clear h1 h2 h3 h4)
  go_ret
  exact ⟨_, _, rfl, H1, H2⟩
 ·have hnc : (n : Int) <= (cap : Int) := by omega
  clear h hv hg h3 h4 h2
  go_enter Tryz.func230, Tryz.ntmps230
  go_wp2_with (at_builtin; refine zaw (α := L.T3) rfl (.tmp 23) (.tmp 24) 30 77 rfl _ 24 Tryz.underlying30 zbh rfl (by decide) B (.slice (some ⟨g, 0, none⟩) n cap) n l x (by simp [Act.eval]) HO.out vb tb (by simp [Act.eval]) HV.out (by omega) hB ?_; intro g' cap' w3 h1 h2 h3 h4; have H1 := Zh h1; have H2 := Zh h2; clear h1 h2 h3 h4)
  all_goals (
   go_ret
   exact ⟨_, _, rfl, H1, H2⟩)
theorem zil (g n c i vb B : Nat) (tb : TypeId) (l : List L.T3) (x : L.T3) (w : World) (h : w.ownsRow B 77 3 (.slice (some ⟨g, 0, none⟩) n c) n (L.flat l)) (hl : l.length = n) (hn : n <= 1000) (hi : i < n) (hroom : c < n + 1) (hB : B <= w.heap.size) (hv : L.Bx w vb tb x) :
  Calls Tryz.prog 230 #[.slice (some ⟨g, 0, none⟩) n c, .int .i64 i, .slice (some ⟨vb, 0, none⟩) 1 1] w fun e w' => ∃ g' c', e = .returned (.slice (some ⟨g', 0, none⟩) (n + 1) c') /\ Hid (w'.ownsRow B 77 3 (.slice (some ⟨g', 0, none⟩) (n + 1) c') (n + 1) (L.flat (l.take i ++ x :: l.drop i))) /\ Hid (w.grownBy w' (some g)) := by
 obtain ⟨hBg, hnc, hcm, rest, hrl, hblk⟩ := zda h
 obtain ⟨P, hP⟩ : ∃ P, l.take i = P := ⟨_, rfl⟩
 obtain ⟨Q, hQ⟩ : ∃ Q, l.drop i = Q := ⟨_, rfl⟩
 have hPQ : l = P ++ Q := by rw [<- hP, <- hQ, List.take_append_drop]
 have hPl : P.length = i := by rw [<- hP]; simp; omega
 have hQl : Q.length = n - i := by rw [<- hQ]; simp; omega
 rw [hP, hQ]
 have fP : (L.flat P).length = i * 3 := by rw [L.flat_len3, hPl]
 have fQ : (L.flat Q).length = (n - i) * 3 := by rw [L.flat_len3, hQl]
 have K0 : Blok w g 77 (L.flat P ++ L.flat Q ++ rest).toArray := by rw [<- L.flat_append, <- hPQ]; exact hblk
 have hgw : g < w.heap.size := K0.lt
 have hvw : vb < w.heap.size := Blok.lt hv
 obtain ⟨i0, hi0, hz0, hzs, hzb⟩ := zbh
 have hsz : (Tryz.prog.info? 77).map (·.size) = some 3 := by rw [hi0]; simp [hzs]
 have hold : (Builtin.firstCells i0.size i (.slice (some ⟨g, 0, none⟩) i c)).run Tryz.prog w.drew = .ok (L.flat P).toArray w.drew := by
  rw [hzs]
  exact run_firstCells_some w.drew 3 i ⟨g, 0, none⟩ i c (L.flat P) fP (fun j v hj => by
   have hjl := (List.getElem?_eq_some_iff.1 hj).1
   rw [Addr.add_lit, K0.drew.cell, Nat.zero_add, List.getElem?_toArray, List.append_assoc, List.getElem?_append_left hjl]; exact hj)
 obtain ⟨G, hG⟩ : ∃ G, grownCap w (n + 1) c 77 = G := ⟨_, rfl⟩
 have hGn : n + 1 <= G := by rw [<- hG]; exact grownCap_ge w _ _ _
 have hGm : G <= maxLen := by rw [<- hG]; exact grownCap_le_maxLen w (n + 1) c 77 (by unfold maxLen; omega)
 obtain ⟨Z, hZ⟩ : ∃ Z : List Value, (Builtin.zeroCells (Value.agg #[.int .i64 0, .int .i64 0, .int .i64 0]).cells (n + 1 - i)).toList = Z := ⟨_, rfl⟩
 obtain ⟨Y, hY⟩ : ∃ Y : List Value, (Builtin.zeroCells (Value.agg #[.int .i64 0, .int .i64 0, .int .i64 0]).cells (G - (n + 1))).toList = Y := ⟨_, rfl⟩
 have hZl : Z.length = (n + 1 - i) * 3 := by rw [<- hZ]; simp [Builtin.zeroCells, Value.cells]
 have hYl : Y.length = (G - (n + 1)) * 3 := by rw [<- hY]; simp [Builtin.zeroCells, Value.cells]
 obtain ⟨W1, hW1⟩ : ∃ W, w.drew.alloc (.cells (L.flat P ++ Z ++ Y).toArray 77) = W := ⟨_, rfl⟩
 have hkk : (n : Int) + 1 - (i : Int) = ((n + 1 - i : Nat) : Int) := by omega
 have hik : i + (n + 1 - i) = n + 1 := by omega
 have hrz : ∀ ty, (Builtin.append_ #[30, 3] ty #[.slice (some ⟨g, 0, none⟩) i c, .int .i64 ((n : Int) + 1 - (i : Int))]).run Tryz.prog w = .ok (.slice (some ⟨w.heap.size, 0, none⟩) (n + 1) G) W1 := fun ty => by
  have hr := Lib.run_append_grow_zeros w 30 3 ty 77 i0 _ .i64 .i64 Tryz.underlying30 Tryz.underlying3 hi0 hz0 (some ⟨g, 0, none⟩) i c (L.flat P) hold (n + 1 - i) (by omega) (by rw [hzs]; decide) (by omega) (by omega) (by rw [hzb]; omega) (by rw [hzb, hik]; exact growslice_fits hroom (by omega))
  rw [hik, hG] at hr
  have he : ∀ z y : Array Value, (L.flat P).toArray ++ z ++ y = (L.flat P ++ z.toList ++ y.toList).toArray := fun z y => by apply Array.ext'; simp
  rw [hkk, hr, <- hW1, <- hZ, <- hY, he]
 have K1 : Blok W1 w.heap.size 77 (L.flat P ++ Z ++ Y).toArray := by rw [<- hW1]; exact Blok.new w.drew _ _
 have B1 : Below w.heap.size w W1 := by rw [<- hW1]; exact (Below.refl _ w).drew.alloc (Nat.le_refl _) _
 obtain ⟨A, D, hAD, hA, hD⟩ : ∃ A D : List Value, Z = A ++ D /\ A.length = 3 /\ D.length = (n - i) * 3 := ⟨Z.take 3, Z.drop 3, (List.take_append_drop _ _).symm, by rw [List.length_take, hZl]; omega, by rw [List.length_drop, hZl]; omega⟩
 have K1' : Blok W1 w.heap.size 77 (L.flat P ++ A ++ (D ++ Y)).toArray := by rw [hAD] at K1; simpa using K1
 have K2 := Blok.cellsAt (L.cells x) A (L.flat P) (D ++ Y) W1 K1' (by rw [hA, L.cells_len3])
 rw [fP] at K2
 obtain ⟨W2, hW2⟩ : ∃ W2, W1.setCells w.heap.size (i * 3) (L.cells x) = W2 := ⟨_, rfl⟩
 rw [hW2] at K2
 have B2 : Below w.heap.size w W2 := B1.grown (by rw [<- hW2]; exact zas _ _ _) B1.size (fun k hk => by cases hk; exact Nat.le_refl _)
 have K2' : Blok W2.drew w.heap.size 77 ((L.flat P ++ L.cells x) ++ D ++ Y).toArray := by have := K2.drew; simpa using this
 have K3 := Blok.cellsAt (L.flat Q) D (L.flat P ++ L.cells x) Y W2.drew K2' (by rw [hD, fQ])
 have eo : (L.flat P ++ L.cells x).length = (i + 1) * 3 := by rw [List.length_append, fP, L.cells_len3]; omega
 rw [eo] at K3
 obtain ⟨W3, hW3⟩ : ∃ W3, W2.drew.setCells w.heap.size ((i + 1) * 3) (L.flat Q) = W3 := ⟨_, rfl⟩
 rw [hW3] at K3
 have B3 : Below w.heap.size w W3 := B2.drew.grown (by rw [<- hW3]; exact zas _ _ _) B2.drew.size (fun k hk => by cases hk; exact Nat.le_refl _)
 have HFIN : Hid (W3.ownsRow B 77 3 (.slice (some ⟨w.heap.size, 0, none⟩) (n + 1) G) (n + 1) (L.flat (P ++ x :: Q))) := Zh (by
  refine zdb (rest := Y) ?_ (by rw [L.flat_len3, List.length_append, List.length_cons, hPl, hQl]; omega) (by rw [hYl]; omega) hB hGn hGm
  rw [L.flat_append, L.flat_cons]; simpa using K3)
 have HG3 : Hid (w.grownBy W3 (some g)) := Zh (zbx (L.below_none B3))
 have HV1 : L.Bx W1 vb tb x := Blok.below hv B1 hvw
 have KG2 : Blok W2.drew g 77 (L.flat P ++ L.flat Q ++ rest).toArray := (K0.below B2 hgw).drew
 have hcp1 : ∀ ty dc, (Builtin.copy_ #[30, 30] ty #[.slice (some ⟨w.heap.size, i * 3, none⟩) (n + 1 - i) dc, .slice (some ⟨vb, 0, none⟩) 1 1]).run Tryz.prog W1 = .ok (goInt (1 : Nat)) W2 := fun ty dc => by
  rw [<- hW2]
  exact za9 W1 30 30 ty 77 3 1 w.heap.size (i * 3) _ dc ⟨vb, 0, none⟩ 1 1 (L.cells x) Tryz.underlying30 hsz (by simp only [Nat.min_def]; split <;> omega) (by rw [L.cells_len3])
   (fun j v hj => L.cell_one (t := tb) HV1 j v hj)
   (fun j hj => by
    rw [L.cells_len3] at hj
    rw [K1.cell, Array.getElem?_eq_getElem (by simp only [List.size_toArray, List.length_append, fP, hZl]; omega)]; rfl)
   (fun j hj => K1.frozen _) (L.cells_one x)
 have hcp2 : ∀ ty dc sc, (Builtin.copy_ #[30, 30] ty #[.slice (some ⟨w.heap.size, (i + 1) * 3, none⟩) (n - i) dc, .slice (some ⟨g, i * 3, none⟩) (n - i) sc]).run Tryz.prog W2.drew = .ok (goInt (n - i : Nat)) W3 := fun ty dc sc => by
  rw [<- hW3]
  exact za9 W2.drew 30 30 ty 77 3 (n - i) w.heap.size ((i + 1) * 3) _ dc ⟨g, i * 3, none⟩ _ sc (L.flat Q) Tryz.underlying30 hsz (by simp only [Nat.min_def]; split <;> omega) fQ
   (fun j v hj => by
    have hjl := (List.getElem?_eq_some_iff.1 hj).1
    rw [Addr.add_lit, KG2.cell, List.getElem?_toArray, List.append_assoc, List.getElem?_append_right (by rw [fP]; omega), fP, List.getElem?_append_left (by omega), <- hj]
    congr 1; omega)
   (fun j hj => by
    rw [K2'.cell, Array.getElem?_eq_getElem (by simp only [List.size_toArray, List.length_append, fP, L.cells_len3, hD]; rw [fQ] at hj; omega)]; rfl)
   (fun j hj => K2'.frozen _) (L.flat_one Q)
 clear h hblk hPQ hPl hQl hP hQ K0 K1 K1' K2 K2' K3 hAD hA hD eo hW1 hW2 hW3 HV1 hv fP fQ hrl KG2 B1 B2 B3 hZ hY hZl hYl hold hkk hik hi0 hz0 hzs hzb hsz hG
 have hz2 : ((i : Int) == (n : Int)) = false := by simp; omega
 have hw1 : IntKind.i64.wrap ((i : Int) + 1) = (i : Int) + 1 := by rw [IntKind.wrap_i64]; omega
 have hw2 : IntKind.i64.wrap ((n : Int) + 1) = (n : Int) + 1 := by rw [IntKind.wrap_i64]; omega
 have hw3 : IntKind.i64.wrap ((n : Int) + 1 - (i : Int)) = (n : Int) + 1 - (i : Int) := by rw [IntKind.wrap_i64]; omega
 have hb0 : (0 : Int) <= (i : Int) := by omega
 have hb1 : (0 : Int) <= (i : Int) + 1 := by omega
 have hin : i <= n := by omega
 have hic : i <= c := by omega
 have hin2 : (i : Int) <= (n : Int) := by omega
 have hic2 : (i : Int) <= (c : Int) := by omega
 have hnc2 : (n : Int) <= (c : Int) := by omega
 have htn : ((i : Int) + 1).toNat = i + 1 := by omega
 have htn2 : ((n : Int) + 1).toNat = n + 1 := by omega
 have hb2 : ¬ (c = i + 1) \/ c = i + 1 := by omega
 have hb3 : (i : Int) <= (n : Int) + 1 := by omega
 have hb4 : ¬ (c = i) := by omega
 have hb5 : decide ((c : Int) < (n : Int) + 1) = true := by simp; omega
 have hb6 : ¬ (G = i) := by omega
 have hb7 : ¬ (G = i + 1) := by omega
 have hb8 : (i : Int) + 1 <= (n : Int) + 1 := by omega
 have hb9 : (n : Int) + 1 <= (G : Int) := by omega
 go_enter Tryz.func230, Tryz.ntmps230
 go_wp2_with (first
  | (at_builtin; refine Lib.wpList_append_run _ rfl _ _ _ _ rfl _ _ rfl rfl _ _ (hrz _) ?_)
  | (at_builtin; refine wpList_copy_runI _ rfl _ _ 30 30 rfl _ _ rfl rfl (hcp1 _ _) ?_))
 go_region_law (refine step_copy_runI rfl _ _ 30 30 rfl _ _ (by simp [Act.eval, Act.put]) (by simp [Act.eval, Act.put]) (hcp2 _ _ _) ?_)
 go_wp2
 go_ret
 exact ⟨_, _, rfl, HFIN, HG3⟩
theorem zj8 (v : Value) (n i vb B : Nat) (tb : TypeId) (l : List L.T3) (x : L.T3) (w : World) (h : w.ownsRow B 77 3 v n (L.flat l)) (hl : l.length = n) (hn : n <= 1000) (hi : i <= n) (hB : B <= w.heap.size) (hv : L.Bx w vb tb x) (hvb : v.ownBlock ≠ some vb) :
  Calls Tryz.prog 230 #[v, .int .i64 i, .slice (some ⟨vb, 0, none⟩) 1 1] w fun e w' => ∃ g' c', e = .returned (.slice (some ⟨g', 0, none⟩) (n + 1) c') /\ Hid (w'.ownsRow B 77 3 (.slice (some ⟨g', 0, none⟩) (n + 1) c') (n + 1) (L.flat (l.take i ++ x :: l.drop i))) /\ Hid (w.grownBy w' v.ownBlock) := by
 by_cases he : i = n
 ·subst he
  rw [List.take_of_length_le (by omega), List.drop_eq_nil_of_le (by omega)]
  exact zj7 v i vb B tb l x w h hn hB hv
 ·rcases h.2 with ⟨rfl, h0⟩ | ⟨g, cap, cur, rfl, _⟩
  ·omega
  ·by_cases hr : n + 1 <= cap
   ·refine (zik g n cap i vb B tb l x w h hl (by omega) hr (fun e => hvb (by rw [e]; rfl)) hv).mono ?_
    rintro e w' ⟨rfl, h1, h2⟩
    exact ⟨_, _, rfl, h1, h2⟩
   ·exact zil g n cap i vb B tb l x w h hl hn (by omega) (by omega) hB hv
end Go.Proofs.YtijkbflimbffmaaGreat
