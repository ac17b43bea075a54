/-
  What is done to pools: pool.done.
-/
import Derived.Test.YtejckbnapcdhpaaOApp
import Derived.Test.YtejckbnapcdhpaaOMay
import Derived.Deep.Cut
import Derived.Deep.CutRange
namespace Go.Proofs.Ytejckbnapcdhpaa
open Go.RowKit

def O.turn (what k n : Int) (i : Nat) (x : O.Pl) : List O.Pl :=
  if (i : Int) = k then (if what = 1 then [{ x with s := 1 }] else if what = 2 then [{ x with n := n }] else if what = 3 then [] else [x]) else [x]
def O.runTo (what k n : Int) (l : List O.Pl) : Nat → List O.Pl
  | 0 => []
  | j + 1 => O.runTo what k n l j ++ (match l[j]? with | some x => O.turn what k n j x | none => [])
theorem O.runTo_next {what k n : Int} {l : List O.Pl} {j : Nat} {x : O.Pl} (h : l[j]? = some x) : O.runTo what k n l (j + 1) = O.runTo what k n l j ++ O.turn what k n j x := by
  rw [O.runTo, h]
theorem O.turn_ne {what k n : Int} {i : Nat} {x : O.Pl} (h : ¬ (i : Int) = k) : O.turn what k n i x = [x] := by unfold O.turn; rw [if_neg h]
theorem O.turn_len (what k n : Int) (i : Nat) (x : O.Pl) : (O.turn what k n i x).length ≤ 1 := by
  unfold O.turn
  repeat' split
  all_goals simp
theorem O.runTo_len (what k n : Int) (l : List O.Pl) (j : Nat) : (O.runTo what k n l j).length ≤ j := by
  induction j with
  | zero => simp [O.runTo]
  | succ j ih =>
    rw [O.runTo, List.length_append]
    split
    · have := O.turn_len what k n j ‹_›; omega
    · simp; omega
theorem O.runTo_take {what k n : Int} {l : List O.Pl} (h : ∀ (i : Nat) (x : O.Pl), O.turn what k n i x = [x]) : ∀ j, j ≤ l.length → O.runTo what k n l j = l.take j
  | 0, _ => by simp [O.runTo]
  | j + 1, hj => by
    have hx := List.getElem?_eq_getElem (show j < l.length by omega)
    rw [O.runTo_next hx, O.runTo_take h j (by omega), h, List.take_succ_eq_append_getElem (by omega)]
theorem O.run0 (k n : Int) (l : List O.Pl) : O.runTo 0 k n l l.length = l := by
  rw [O.runTo_take (fun i x => by unfold O.turn; split <;> rfl) l.length (Nat.le_refl _), List.take_length]
theorem O.run_set {what n : Int} {k : Nat} {l : List O.Pl} {y : O.Pl} (hk : k < l.length) (h : O.turn what k n k l[k] = [y]) : ∀ j, j ≤ l.length → O.runTo what k n l j = (l.set k y).take j
  | 0, _ => by simp [O.runTo]
  | j + 1, hj => by
    have hx := List.getElem?_eq_getElem (show j < l.length by omega)
    rw [O.runTo_next hx, O.run_set hk h j (by omega), List.take_succ_eq_append_getElem (by simp; omega)]
    congr 1
    by_cases e : j = k
    · subst e; rw [h]; simp
    · rw [O.turn_ne (by omega), List.getElem_set_ne (Ne.symm e)]
theorem O.run1 {k : Int} (n : Int) {l : List O.Pl} (h0 : 0 ≤ k) (h1 : k < l.length) : O.runTo 1 k n l l.length = l.set k.toNat { O.at' l k with s := 1 } := by
  obtain ⟨m, rfl⟩ : ∃ m : Nat, k = m := ⟨k.toNat, by omega⟩
  have hm : m < l.length := by omega
  rw [Int.toNat_natCast, O.at_some (List.getElem?_eq_getElem hm), O.run_set hm (y := { l[m] with s := 1 }) (by unfold O.turn; rw [if_pos rfl, if_pos rfl]) l.length (Nat.le_refl _)]
  rw [List.take_of_length_le (by simp)]
theorem O.run2 {k n : Int} {l : List O.Pl} (h0 : 0 ≤ k) (h1 : k < l.length) : O.runTo 2 k n l l.length = l.set k.toNat { O.at' l k with n := n } := by
  obtain ⟨m, rfl⟩ : ∃ m : Nat, k = m := ⟨k.toNat, by omega⟩
  have hm : m < l.length := by omega
  rw [Int.toNat_natCast, O.at_some (List.getElem?_eq_getElem hm), O.run_set hm (y := { l[m] with n := n }) (by unfold O.turn; rw [if_pos rfl, if_neg (by decide), if_pos rfl]) l.length (Nat.le_refl _)]
  rw [List.take_of_length_le (by simp)]
theorem O.run3_aux {n : Int} {k : Nat} {l : List O.Pl} : ∀ j, j ≤ l.length → O.runTo 3 k n l j = (l.take j).eraseIdx k
  | 0, _ => by simp [O.runTo]
  | j + 1, hj => by
    have hx := List.getElem?_eq_getElem (show j < l.length by omega)
    rw [O.runTo_next hx, O.run3_aux j (by omega), List.take_succ_eq_append_getElem (by omega)]
    by_cases e : j = k
    · subst e
      have e1 : O.turn 3 j n j l[j] = [] := by unfold O.turn; rw [if_pos rfl, if_neg (by decide), if_neg (by decide), if_pos rfl]
      rw [e1, List.append_nil, List.eraseIdx_of_length_le (by simp; omega), List.eraseIdx_append_of_length_le (by simp; omega)]
      simp [Nat.min_eq_left (show j ≤ l.length by omega)]
    · rw [O.turn_ne (by omega)]
      by_cases h2 : k < j
      · rw [List.eraseIdx_append_of_lt_length (by simp; omega)]
      · rw [List.eraseIdx_of_length_le (by simp; omega), List.eraseIdx_append_of_length_le (by simp; omega)]
        simp only [List.length_take, Nat.min_eq_left (show j ≤ l.length by omega)]
        rw [List.eraseIdx_of_length_le (by simp; omega)]
theorem O.run3 {k : Int} (n : Int) {l : List O.Pl} (h0 : 0 ≤ k) : O.runTo 3 k n l l.length = l.eraseIdx k.toNat := by
  obtain ⟨m, rfl⟩ : ∃ m : Nat, k = m := ⟨k.toNat, by omega⟩
  rw [Int.toNat_natCast, O.run3_aux l.length (Nat.le_refl _), List.take_length]
theorem O.base {w : World} {B e sz n : Nat} {v : Value} {xs : List Value} (h : w.ownsRow (B + 1) e sz v n xs) : w.ownsRow B e sz v n xs := by
  refine ⟨h.1, ?_⟩
  rcases h.2 with hn | ⟨g, cap, cur, rfl, hb', rest⟩
  · exact .inl hn
  · exact .inr ⟨g, cap, cur, rfl, by omega, rest⟩
theorem O.grown_set (w : World) (b i : Nat) (u : Value) : w.grownBy (w.setCell ⟨b, i, none⟩ u) (some b) :=
  ⟨rfl, rfl, rfl, by simp, fun k _ hk => Below.heap_setCell w ⟨b, i, none⟩ u k (fun e => hk (by simp [e]))⟩
theorem O.set1 {w : World} {b : Nat} {x : O.Pl} (h : O.Bx w b x) (n : Int) : O.Bx (w.setCell ⟨b, 1, none⟩ (.int .i64 n)) b { x with n := n } := by
  have := Blok.set h 1 (.int .i64 n); simpa [O.Bx] using this
theorem O.set2 {w : World} {b : Nat} {x : O.Pl} (h : O.Bx w b x) (n : Int) : O.Bx (w.setCell ⟨b, 2, none⟩ (.int .i64 n)) b { x with s := n } := by
  have := Blok.set h 2 (.int .i64 n); simpa [O.Bx] using this
/-- The box of what is done. -/
def O.tk (w : World) (t k f n : Int) : World := w.alloc (.cells #[.int .i64 t, .int .i64 k, .int .i64 f, .int .i64 n] 49)
theorem O.tk_below (w : World) (t k f n : Int) : Below w.heap.size w (O.tk w t k f n) := (Below.refl _ w).alloc (Nat.le_refl _) _
theorem O.tk_is (w : World) (t k f n : Int) : Blok (O.tk w t k f n) w.heap.size 49 #[.int .i64 t, .int .i64 k, .int .i64 f, .int .i64 n] := Blok.new _ _ _

set_option maxRecDepth 100000 in
set_option maxHeartbeats 600000 in
theorem done0_run (a : Option Addr) (n c : Nat) (l : List O.Pl) (k f n' : Int) (w : World) (h : QIn w a n c l) (hn : n ≤ 1000) :
    Calls Try.prog 31 #[.slice a n c, .agg #[.int .i64 0, .int .i64 k, .int .i64 f, .int .i64 n']] w fun e w' => ∃ v q, e = .returned v ∧ (O.runTo 0 k n' l n ++ [(⟨f, n', 0⟩ : O.Pl)]).length = q ∧ Hid (w'.ownsRow w.heap.size 37 3 v q (O.flat (O.runTo 0 k n' l n ++ [(⟨f, n', 0⟩ : O.Pl)]))) ∧ Below w.heap.size w w' := by
  have HT := Lib.hid h
  have HB0 := Lib.hid (O.tk_below w 0 k f n')
  have HK0 := Lib.hid (O.tk_is w 0 k f n')
  obtain ⟨W0, hW0⟩ : ∃ W, O.tk w 0 k f n' = W := ⟨_, rfl⟩
  rw [hW0] at HB0 HK0
  unfold O.tk at hW0
  clear h
  go_enter Try.func31, Try.ntmps31
  go_wp2_with fail
  go_step3
  go_wp2_with fail
  go_step3
  go_wp2_with fail
  clear hW0
  go_loopw [5, 10] (fun s5 s10 wx => ∃ (v : Value) (j q : Nat), v = s5 ∧ s10 = .int .i64 j ∧ j ≤ n ∧ q ≤ j ∧ Hid ((O.runTo 0 k n' l j).length = q) ∧ Hid (wx.ownsRow (w.heap.size + 1) 37 3 v q (O.flat (O.runTo 0 k n' l j))) ∧ Hid (Blok wx w.heap.size 49 #[.int .i64 0, .int .i64 k, .int .i64 f, .int .i64 n']) ∧ Hid (Below w.heap.size w wx)) (fun _ i _ => n - (intOf i).toNat)
  case atStart => exact ⟨_, 0, 0, rfl, by go_num, by omega, by omega, Lib.hid rfl, Lib.hid (World.ownsRow_nil _ _ _ _), HK0, HB0⟩
  case round =>
    obtain ⟨v, j, q, rfl, rfl, hjn, hqj, HQ, HO, HKx, HBx⟩ := hrel
    by_cases hlt : j < n
    · have dj : decide ((j : Int) < n) = true := by simp; omega
      obtain ⟨b, off, x, rfl, hbl, hx, p0, p1, p2⟩ := (HT.out.below HBx.out).at hlt
      have HX := Lib.hid hx
      have j0 : (0 : Int) ≤ j := by omega
      have j1 : (j : Int) < n := by omega
      have TB := Lib.hid (O.box_below wr x)
      have TK := Lib.hid (O.box_is wr x)
      have HBt := Lib.hid (HBx.out.trans (TB.out.mono HBx.out.size))
      have HOt := Lib.hid (ownsRow_below HO.out TB.out)
      have HKt := Lib.hid (HKx.out.alloc (.cells #[.int .i64 x.f, .int .i64 x.n, .int .i64 x.s] 37))
      have hsn := O.runTo_next (what := 0) (k := k) (n := n') hx
      clear hx
      obtain ⟨acc, hacc⟩ : ∃ acc, O.runTo 0 k n' l j = acc := ⟨_, rfl⟩
      rw [hacc] at HQ HOt hsn
      have hqa : acc.length = q := HQ.out
      clear hacc
      go_upto_region 5 with fail
      obtain ⟨W, hW⟩ : ∃ V, wr.alloc (.cells #[.int .i64 x.f, .int .i64 x.n, .int .i64 x.s] 37) = V := ⟨_, rfl⟩
      have HOV : Hid (W.ownsRow (w.heap.size + 1) 37 3 v q (O.flat acc)) := Lib.hid (by rw [← hW]; exact HOt.out)
      have HBV : Hid (Below w.heap.size w W) := Lib.hid (by rw [← hW]; exact HBt.out)
      have HXV : Hid (O.Bx W wr.heap.size x) := Lib.hid (by rw [← hW]; exact TK.out)
      have HKV : Hid (Blok W w.heap.size 49 #[.int .i64 0, .int .i64 k, .int .i64 f, .int .i64 n']) := Lib.hid (by rw [← hW]; exact HKt.out)
      have HLT := Lib.hid (HO.out)
      rw [hW]
      clear hW p0 p1 p2 TB TK HBt HOt HKt
      have k0 : W.cell? ⟨w.heap.size, 0, none⟩ = some (.int .i64 0) := HKV.out.cell 0
      have k1 : W.cell? ⟨w.heap.size, 1, none⟩ = some (.int .i64 k) := HKV.out.cell 1
      have k3 : W.cell? ⟨w.heap.size, 3, none⟩ = some (.int .i64 n') := HKV.out.cell 3
      by_cases hjk : (j : Int) = k
      · have e1 : ((j : Int) == k) = true := by simpa using hjk
        have HS2 : Hid (O.runTo 0 k n' l (j + 1) = acc ++ [x]) := Lib.hid (by rw [hsn]; unfold O.turn; rw [if_pos hjk, if_neg (by decide), if_neg (by decide), if_neg (by decide)])
        clear hsn
        obtain ⟨V, hV⟩ : ∃ V, W = V := ⟨_, rfl⟩
        rw [hV] at HOV HBV HXV HKV k0 k1 k3 ⊢
        clear hV
        have t0 := HXV.out.b0
        have t1 := HXV.out.b1
        have t2 := HXV.out.b2
        go_wp2_with (at_builtin; refine wpList_appendO rfl (.tmp 31) (.tmp 33) rfl (w.heap.size + 1) v q acc x (by simp [Act.eval]) (ownsRow_below HOV.out ((Below.refl _ V).alloc (Nat.le_refl _) _)) V.heap.size (by simp [Act.eval]) (Blok.new V _ _) (by omega) (by have := HKV.out.lt; simp; omega) ?_; intro g cap w3 h1 h2 h3 h4)
        have HB3 : Hid (Below w.heap.size w w3) := Lib.hid ((HBV.out.alloc HBV.out.size _).grown h2 (Nat.le_trans HBV.out.size (by simp)) (fun i hi => Nat.le_of_succ_le (HOV.out.lt i hi).1))
        have HK3 : Hid (Blok w3 w.heap.size 49 #[.int .i64 0, .int .i64 k, .int .i64 f, .int .i64 n']) := Lib.hid ((HKV.out.alloc _).grown h2 (fun e => by have := (HOV.out.lt _ e.symm).1; omega))
        have H1 := Lib.hid h1
        clear h1 h2 h3 h4
        go_wp2
        go_roundw
        case rel => exact ⟨_, j + 1, q + 1, rfl, by go_num, by omega, by omega, Lib.hid (by rw [HS2.out]; simp [hqa]), by rw [HS2.out]; exact H1, HK3, HB3⟩
        case measure => simp [intOf] <;> omega
      · have e1 : ((j : Int) == k) = false := by simpa using hjk
        have HS2 : Hid (O.runTo 0 k n' l (j + 1) = acc ++ [x]) := Lib.hid (by rw [hsn, O.turn_ne hjk])
        clear hsn
        obtain ⟨V, hV⟩ : ∃ V, W = V := ⟨_, rfl⟩
        rw [hV] at HOV HBV HXV HKV k0 k1 k3 ⊢
        clear hV
        have t0 := HXV.out.b0
        have t1 := HXV.out.b1
        have t2 := HXV.out.b2
        go_wp2_with (at_builtin; refine wpList_appendO rfl (.tmp 31) (.tmp 33) rfl (w.heap.size + 1) v q acc x (by simp [Act.eval]) (ownsRow_below HOV.out ((Below.refl _ V).alloc (Nat.le_refl _) _)) V.heap.size (by simp [Act.eval]) (Blok.new V _ _) (by omega) (by have := HKV.out.lt; simp; omega) ?_; intro g cap w3 h1 h2 h3 h4)
        have HB3 : Hid (Below w.heap.size w w3) := Lib.hid ((HBV.out.alloc HBV.out.size _).grown h2 (Nat.le_trans HBV.out.size (by simp)) (fun i hi => Nat.le_of_succ_le (HOV.out.lt i hi).1))
        have HK3 : Hid (Blok w3 w.heap.size 49 #[.int .i64 0, .int .i64 k, .int .i64 f, .int .i64 n']) := Lib.hid ((HKV.out.alloc _).grown h2 (fun e => by have := (HOV.out.lt _ e.symm).1; omega))
        have H1 := Lib.hid h1
        clear h1 h2 h3 h4
        go_wp2
        go_roundw
        case rel => exact ⟨_, j + 1, q + 1, rfl, by go_num, by omega, by omega, Lib.hid (by rw [HS2.out]; simp [hqa]), by rw [HS2.out]; exact H1, HK3, HB3⟩
        case measure => simp [intOf] <;> omega
    · have dj : decide ((j : Int) < n) = false := by simp; omega
      obtain rfl : j = n := by omega
      have k0 : wr.cell? ⟨w.heap.size, 0, none⟩ = some (.int .i64 0) := HKx.out.cell 0
      have k2 : wr.cell? ⟨w.heap.size, 2, none⟩ = some (.int .i64 f) := HKx.out.cell 2
      have k3 : wr.cell? ⟨w.heap.size, 3, none⟩ = some (.int .i64 n') := HKx.out.cell 3
      obtain ⟨acc, hacc⟩ : ∃ acc, O.runTo 0 k n' l j = acc := ⟨_, rfl⟩
      rw [hacc] at HQ HO
      have hqa : acc.length = q := HQ.out
      have HACC := Lib.hid hacc
      clear hacc
      go_wp2_with (at_builtin; refine wpList_appendO rfl (.tmp 39) (.tmp 45) rfl (w.heap.size + 1) v q acc ⟨f, n', 0⟩ (by simp [Act.eval]) (ownsRow_below HO.out ((Below.refl _ wr).alloc (Nat.le_refl _) _)) wr.heap.size (by simp [Act.eval]) (Blok.new wr _ _) (by omega) (by have := HKx.out.lt; simp; omega) ?_; intro g cap w3 h1 h2 h3 h4)
      have HB3 : Hid (Below w.heap.size w w3) := Lib.hid ((HBx.out.alloc HBx.out.size _).grown h2 (Nat.le_trans HBx.out.size (by simp)) (fun i hi => Nat.le_of_succ_le (HO.out.lt i hi).1))
      have H1 := Lib.hid h1
      clear h1 h2 h3 h4
      go_wp2
      try rw [Exit.noGoto_ret]
      go_ret
      exact ⟨_, q + 1, rfl, by rw [HACC.out]; simp [hqa], by rw [HACC.out]; exact Lib.hid (O.base H1.out), HB3.out⟩

set_option maxRecDepth 100000 in
set_option maxHeartbeats 600000 in
theorem done1_run (a : Option Addr) (n c : Nat) (l : List O.Pl) (k f n' : Int) (w : World) (h : QIn w a n c l) (hn : n ≤ 1000) :
    Calls Try.prog 31 #[.slice a n c, .agg #[.int .i64 1, .int .i64 k, .int .i64 f, .int .i64 n']] w fun e w' => ∃ v q, e = .returned v ∧ (O.runTo 1 k n' l n).length = q ∧ Hid (w'.ownsRow w.heap.size 37 3 v q (O.flat (O.runTo 1 k n' l n))) ∧ Below w.heap.size w w' := by
  have HT := Lib.hid h
  have HB0 := Lib.hid (O.tk_below w 1 k f n')
  have HK0 := Lib.hid (O.tk_is w 1 k f n')
  obtain ⟨W0, hW0⟩ : ∃ W, O.tk w 1 k f n' = W := ⟨_, rfl⟩
  rw [hW0] at HB0 HK0
  unfold O.tk at hW0
  clear h
  go_enter Try.func31, Try.ntmps31
  go_wp2_with fail
  go_step3
  go_wp2_with fail
  go_step3
  go_wp2_with fail
  clear hW0
  go_loopw [5, 10] (fun s5 s10 wx => ∃ (v : Value) (j q : Nat), v = s5 ∧ s10 = .int .i64 j ∧ j ≤ n ∧ q ≤ j ∧ Hid ((O.runTo 1 k n' l j).length = q) ∧ Hid (wx.ownsRow (w.heap.size + 1) 37 3 v q (O.flat (O.runTo 1 k n' l j))) ∧ Hid (Blok wx w.heap.size 49 #[.int .i64 1, .int .i64 k, .int .i64 f, .int .i64 n']) ∧ Hid (Below w.heap.size w wx)) (fun _ i _ => n - (intOf i).toNat)
  case atStart => exact ⟨_, 0, 0, rfl, by go_num, by omega, by omega, Lib.hid rfl, Lib.hid (World.ownsRow_nil _ _ _ _), HK0, HB0⟩
  case round =>
    obtain ⟨v, j, q, rfl, rfl, hjn, hqj, HQ, HO, HKx, HBx⟩ := hrel
    by_cases hlt : j < n
    · have dj : decide ((j : Int) < n) = true := by simp; omega
      obtain ⟨b, off, x, rfl, hbl, hx, p0, p1, p2⟩ := (HT.out.below HBx.out).at hlt
      have HX := Lib.hid hx
      have j0 : (0 : Int) ≤ j := by omega
      have j1 : (j : Int) < n := by omega
      have TB := Lib.hid (O.box_below wr x)
      have TK := Lib.hid (O.box_is wr x)
      have HBt := Lib.hid (HBx.out.trans (TB.out.mono HBx.out.size))
      have HOt := Lib.hid (ownsRow_below HO.out TB.out)
      have HKt := Lib.hid (HKx.out.alloc (.cells #[.int .i64 x.f, .int .i64 x.n, .int .i64 x.s] 37))
      have hsn := O.runTo_next (what := 1) (k := k) (n := n') hx
      clear hx
      obtain ⟨acc, hacc⟩ : ∃ acc, O.runTo 1 k n' l j = acc := ⟨_, rfl⟩
      rw [hacc] at HQ HOt hsn
      have hqa : acc.length = q := HQ.out
      clear hacc
      go_upto_region 5 with fail
      obtain ⟨W, hW⟩ : ∃ V, wr.alloc (.cells #[.int .i64 x.f, .int .i64 x.n, .int .i64 x.s] 37) = V := ⟨_, rfl⟩
      have HOV : Hid (W.ownsRow (w.heap.size + 1) 37 3 v q (O.flat acc)) := Lib.hid (by rw [← hW]; exact HOt.out)
      have HBV : Hid (Below w.heap.size w W) := Lib.hid (by rw [← hW]; exact HBt.out)
      have HXV : Hid (O.Bx W wr.heap.size x) := Lib.hid (by rw [← hW]; exact TK.out)
      have HKV : Hid (Blok W w.heap.size 49 #[.int .i64 1, .int .i64 k, .int .i64 f, .int .i64 n']) := Lib.hid (by rw [← hW]; exact HKt.out)
      have HLT := Lib.hid (HO.out)
      rw [hW]
      clear hW p0 p1 p2 TB TK HBt HOt HKt
      have k0 : W.cell? ⟨w.heap.size, 0, none⟩ = some (.int .i64 1) := HKV.out.cell 0
      have k1 : W.cell? ⟨w.heap.size, 1, none⟩ = some (.int .i64 k) := HKV.out.cell 1
      have k3 : W.cell? ⟨w.heap.size, 3, none⟩ = some (.int .i64 n') := HKV.out.cell 3
      by_cases hjk : (j : Int) = k
      · have e1 : ((j : Int) == k) = true := by simpa using hjk
        have HS2 : Hid (O.runTo 1 k n' l (j + 1) = acc ++ [{ x with s := 1 }]) := Lib.hid (by rw [hsn]; unfold O.turn; rw [if_pos hjk, if_pos rfl])
        clear hsn
        have t0 := HXV.out.b0
        have t1 := HXV.out.b1
        have t2 := HXV.out.b2
        have fz := Blok.frozen HXV.out 2
        have hne : ∀ g, v.ownBlock = some g → g ≠ wr.heap.size := fun g hg => by have := (HLT.out.lt g hg).2; omega
        go_upto_region 12 with fail
        obtain ⟨V, hV⟩ : ∃ V, W.setCell ⟨wr.heap.size, 2, none⟩ (.int .i64 1) = V := ⟨_, rfl⟩
        have G := O.grown_set W wr.heap.size 2 (.int .i64 1)
        have HX2 := Lib.hid (O.set2 HXV.out 1)
        rw [hV] at G HX2
        have HOV' : Hid (V.ownsRow (w.heap.size + 1) 37 3 v q (O.flat acc)) := Lib.hid (HOV.out.kept G (by
          by_cases h0 : v.ownBlock = none
          · exact .inl h0
          · exact .inr (fun e => hne _ e rfl)))
        have HBV' : Hid (Below w.heap.size w V) := Lib.hid (HBV.out.grown G HBV.out.size (fun i hi => by cases hi; exact HBx.out.size))
        have HKV' : Hid (Blok V w.heap.size 49 #[.int .i64 1, .int .i64 k, .int .i64 f, .int .i64 n']) := Lib.hid (HKV.out.grown G (fun e => by have e2 := Option.some.inj e; have := HKx.out.lt; omega))
        clear HOV HBV HKV HXV t0 t1 t2 fz G hne k0 k1 k3
        obtain ⟨HOV, -⟩ : Hid (V.ownsRow (w.heap.size + 1) 37 3 v q (O.flat acc)) ∧ True := ⟨HOV', trivial⟩
        obtain ⟨HBV, -⟩ : Hid (Below w.heap.size w V) ∧ True := ⟨HBV', trivial⟩
        obtain ⟨HKV, -⟩ : Hid (Blok V w.heap.size 49 #[.int .i64 1, .int .i64 k, .int .i64 f, .int .i64 n']) ∧ True := ⟨HKV', trivial⟩
        have t0 := HX2.out.b0
        have t1 := HX2.out.b1
        have t2 := HX2.out.b2
        rw [hV]
        clear hV
        go_wp2_with (at_builtin; refine wpList_appendO rfl (.tmp 31) (.tmp 33) rfl (w.heap.size + 1) v q acc { x with s := 1 } (by simp [Act.eval]) (ownsRow_below HOV.out ((Below.refl _ V).alloc (Nat.le_refl _) _)) V.heap.size (by simp [Act.eval]) (Blok.new V _ _) (by omega) (by have := HKV.out.lt; simp; omega) ?_; intro g cap w3 h1 h2 h3 h4)
        have HB3 : Hid (Below w.heap.size w w3) := Lib.hid ((HBV.out.alloc HBV.out.size _).grown h2 (Nat.le_trans HBV.out.size (by simp)) (fun i hi => Nat.le_of_succ_le (HOV.out.lt i hi).1))
        have HK3 : Hid (Blok w3 w.heap.size 49 #[.int .i64 1, .int .i64 k, .int .i64 f, .int .i64 n']) := Lib.hid ((HKV.out.alloc _).grown h2 (fun e => by have := (HOV.out.lt _ e.symm).1; omega))
        have H1 := Lib.hid h1
        clear h1 h2 h3 h4
        go_wp2
        go_roundw
        case rel => exact ⟨_, j + 1, q + 1, rfl, by go_num, by omega, by omega, Lib.hid (by rw [HS2.out]; simp [hqa]), by rw [HS2.out]; exact H1, HK3, HB3⟩
        case measure => simp [intOf] <;> omega
      · have e1 : ((j : Int) == k) = false := by simpa using hjk
        have HS2 : Hid (O.runTo 1 k n' l (j + 1) = acc ++ [x]) := Lib.hid (by rw [hsn, O.turn_ne hjk])
        clear hsn
        obtain ⟨V, hV⟩ : ∃ V, W = V := ⟨_, rfl⟩
        rw [hV] at HOV HBV HXV HKV k0 k1 k3 ⊢
        clear hV
        have t0 := HXV.out.b0
        have t1 := HXV.out.b1
        have t2 := HXV.out.b2
        go_wp2_with (at_builtin; refine wpList_appendO rfl (.tmp 31) (.tmp 33) rfl (w.heap.size + 1) v q acc x (by simp [Act.eval]) (ownsRow_below HOV.out ((Below.refl _ V).alloc (Nat.le_refl _) _)) V.heap.size (by simp [Act.eval]) (Blok.new V _ _) (by omega) (by have := HKV.out.lt; simp; omega) ?_; intro g cap w3 h1 h2 h3 h4)
        have HB3 : Hid (Below w.heap.size w w3) := Lib.hid ((HBV.out.alloc HBV.out.size _).grown h2 (Nat.le_trans HBV.out.size (by simp)) (fun i hi => Nat.le_of_succ_le (HOV.out.lt i hi).1))
        have HK3 : Hid (Blok w3 w.heap.size 49 #[.int .i64 1, .int .i64 k, .int .i64 f, .int .i64 n']) := Lib.hid ((HKV.out.alloc _).grown h2 (fun e => by have := (HOV.out.lt _ e.symm).1; omega))
        have H1 := Lib.hid h1
        clear h1 h2 h3 h4
        go_wp2
        go_roundw
        case rel => exact ⟨_, j + 1, q + 1, rfl, by go_num, by omega, by omega, Lib.hid (by rw [HS2.out]; simp [hqa]), by rw [HS2.out]; exact H1, HK3, HB3⟩
        case measure => simp [intOf] <;> omega
    · have dj : decide ((j : Int) < n) = false := by simp; omega
      obtain rfl : j = n := by omega
      have k0 : wr.cell? ⟨w.heap.size, 0, none⟩ = some (.int .i64 1) := HKx.out.cell 0
      have k2 : wr.cell? ⟨w.heap.size, 2, none⟩ = some (.int .i64 f) := HKx.out.cell 2
      have k3 : wr.cell? ⟨w.heap.size, 3, none⟩ = some (.int .i64 n') := HKx.out.cell 3
      go_wp2
      try rw [Exit.noGoto_ret]
      go_ret
      exact ⟨v, q, rfl, HQ.out, Lib.hid (O.base HO.out), HBx.out⟩

set_option maxRecDepth 100000 in
set_option maxHeartbeats 600000 in
theorem done2_run (a : Option Addr) (n c : Nat) (l : List O.Pl) (k f n' : Int) (w : World) (h : QIn w a n c l) (hn : n ≤ 1000) :
    Calls Try.prog 31 #[.slice a n c, .agg #[.int .i64 2, .int .i64 k, .int .i64 f, .int .i64 n']] w fun e w' => ∃ v q, e = .returned v ∧ (O.runTo 2 k n' l n).length = q ∧ Hid (w'.ownsRow w.heap.size 37 3 v q (O.flat (O.runTo 2 k n' l n))) ∧ Below w.heap.size w w' := by
  have HT := Lib.hid h
  have HB0 := Lib.hid (O.tk_below w 2 k f n')
  have HK0 := Lib.hid (O.tk_is w 2 k f n')
  obtain ⟨W0, hW0⟩ : ∃ W, O.tk w 2 k f n' = W := ⟨_, rfl⟩
  rw [hW0] at HB0 HK0
  unfold O.tk at hW0
  clear h
  go_enter Try.func31, Try.ntmps31
  go_wp2_with fail
  go_step3
  go_wp2_with fail
  go_step3
  go_wp2_with fail
  clear hW0
  go_loopw [5, 10] (fun s5 s10 wx => ∃ (v : Value) (j q : Nat), v = s5 ∧ s10 = .int .i64 j ∧ j ≤ n ∧ q ≤ j ∧ Hid ((O.runTo 2 k n' l j).length = q) ∧ Hid (wx.ownsRow (w.heap.size + 1) 37 3 v q (O.flat (O.runTo 2 k n' l j))) ∧ Hid (Blok wx w.heap.size 49 #[.int .i64 2, .int .i64 k, .int .i64 f, .int .i64 n']) ∧ Hid (Below w.heap.size w wx)) (fun _ i _ => n - (intOf i).toNat)
  case atStart => exact ⟨_, 0, 0, rfl, by go_num, by omega, by omega, Lib.hid rfl, Lib.hid (World.ownsRow_nil _ _ _ _), HK0, HB0⟩
  case round =>
    obtain ⟨v, j, q, rfl, rfl, hjn, hqj, HQ, HO, HKx, HBx⟩ := hrel
    by_cases hlt : j < n
    · have dj : decide ((j : Int) < n) = true := by simp; omega
      obtain ⟨b, off, x, rfl, hbl, hx, p0, p1, p2⟩ := (HT.out.below HBx.out).at hlt
      have HX := Lib.hid hx
      have j0 : (0 : Int) ≤ j := by omega
      have j1 : (j : Int) < n := by omega
      have TB := Lib.hid (O.box_below wr x)
      have TK := Lib.hid (O.box_is wr x)
      have HBt := Lib.hid (HBx.out.trans (TB.out.mono HBx.out.size))
      have HOt := Lib.hid (ownsRow_below HO.out TB.out)
      have HKt := Lib.hid (HKx.out.alloc (.cells #[.int .i64 x.f, .int .i64 x.n, .int .i64 x.s] 37))
      have hsn := O.runTo_next (what := 2) (k := k) (n := n') hx
      clear hx
      obtain ⟨acc, hacc⟩ : ∃ acc, O.runTo 2 k n' l j = acc := ⟨_, rfl⟩
      rw [hacc] at HQ HOt hsn
      have hqa : acc.length = q := HQ.out
      clear hacc
      go_upto_region 5 with fail
      obtain ⟨W, hW⟩ : ∃ V, wr.alloc (.cells #[.int .i64 x.f, .int .i64 x.n, .int .i64 x.s] 37) = V := ⟨_, rfl⟩
      have HOV : Hid (W.ownsRow (w.heap.size + 1) 37 3 v q (O.flat acc)) := Lib.hid (by rw [← hW]; exact HOt.out)
      have HBV : Hid (Below w.heap.size w W) := Lib.hid (by rw [← hW]; exact HBt.out)
      have HXV : Hid (O.Bx W wr.heap.size x) := Lib.hid (by rw [← hW]; exact TK.out)
      have HKV : Hid (Blok W w.heap.size 49 #[.int .i64 2, .int .i64 k, .int .i64 f, .int .i64 n']) := Lib.hid (by rw [← hW]; exact HKt.out)
      have HLT := Lib.hid (HO.out)
      rw [hW]
      clear hW p0 p1 p2 TB TK HBt HOt HKt
      have k0 : W.cell? ⟨w.heap.size, 0, none⟩ = some (.int .i64 2) := HKV.out.cell 0
      have k1 : W.cell? ⟨w.heap.size, 1, none⟩ = some (.int .i64 k) := HKV.out.cell 1
      have k3 : W.cell? ⟨w.heap.size, 3, none⟩ = some (.int .i64 n') := HKV.out.cell 3
      by_cases hjk : (j : Int) = k
      · have e1 : ((j : Int) == k) = true := by simpa using hjk
        have HS2 : Hid (O.runTo 2 k n' l (j + 1) = acc ++ [{ x with n := n' }]) := Lib.hid (by rw [hsn]; unfold O.turn; rw [if_pos hjk, if_neg (by decide), if_pos rfl])
        clear hsn
        have t0 := HXV.out.b0
        have t1 := HXV.out.b1
        have t2 := HXV.out.b2
        have fz := Blok.frozen HXV.out 1
        have hne : ∀ g, v.ownBlock = some g → g ≠ wr.heap.size := fun g hg => by have := (HLT.out.lt g hg).2; omega
        go_upto_region 12 with fail
        obtain ⟨V, hV⟩ : ∃ V, W.setCell ⟨wr.heap.size, 1, none⟩ ((.int .i64 n')) = V := ⟨_, rfl⟩
        have G := O.grown_set W wr.heap.size 1 ((.int .i64 n'))
        have HX2 := Lib.hid (O.set1 HXV.out n')
        rw [hV] at G HX2
        have HOV' : Hid (V.ownsRow (w.heap.size + 1) 37 3 v q (O.flat acc)) := Lib.hid (HOV.out.kept G (by
          by_cases h0 : v.ownBlock = none
          · exact .inl h0
          · exact .inr (fun e => hne _ e rfl)))
        have HBV' : Hid (Below w.heap.size w V) := Lib.hid (HBV.out.grown G HBV.out.size (fun i hi => by cases hi; exact HBx.out.size))
        have HKV' : Hid (Blok V w.heap.size 49 #[.int .i64 2, .int .i64 k, .int .i64 f, .int .i64 n']) := Lib.hid (HKV.out.grown G (fun e => by have e2 := Option.some.inj e; have := HKx.out.lt; omega))
        clear HOV HBV HKV HXV t0 t1 t2 fz G hne k0 k1 k3
        obtain ⟨HOV, -⟩ : Hid (V.ownsRow (w.heap.size + 1) 37 3 v q (O.flat acc)) ∧ True := ⟨HOV', trivial⟩
        obtain ⟨HBV, -⟩ : Hid (Below w.heap.size w V) ∧ True := ⟨HBV', trivial⟩
        obtain ⟨HKV, -⟩ : Hid (Blok V w.heap.size 49 #[.int .i64 2, .int .i64 k, .int .i64 f, .int .i64 n']) ∧ True := ⟨HKV', trivial⟩
        have t0 := HX2.out.b0
        have t1 := HX2.out.b1
        have t2 := HX2.out.b2
        rw [hV]
        clear hV
        go_wp2_with (at_builtin; refine wpList_appendO rfl (.tmp 31) (.tmp 33) rfl (w.heap.size + 1) v q acc { x with n := n' } (by simp [Act.eval]) (ownsRow_below HOV.out ((Below.refl _ V).alloc (Nat.le_refl _) _)) V.heap.size (by simp [Act.eval]) (Blok.new V _ _) (by omega) (by have := HKV.out.lt; simp; omega) ?_; intro g cap w3 h1 h2 h3 h4)
        have HB3 : Hid (Below w.heap.size w w3) := Lib.hid ((HBV.out.alloc HBV.out.size _).grown h2 (Nat.le_trans HBV.out.size (by simp)) (fun i hi => Nat.le_of_succ_le (HOV.out.lt i hi).1))
        have HK3 : Hid (Blok w3 w.heap.size 49 #[.int .i64 2, .int .i64 k, .int .i64 f, .int .i64 n']) := Lib.hid ((HKV.out.alloc _).grown h2 (fun e => by have := (HOV.out.lt _ e.symm).1; omega))
        have H1 := Lib.hid h1
        clear h1 h2 h3 h4
        go_wp2
        go_roundw
        case rel => exact ⟨_, j + 1, q + 1, rfl, by go_num, by omega, by omega, Lib.hid (by rw [HS2.out]; simp [hqa]), by rw [HS2.out]; exact H1, HK3, HB3⟩
        case measure => simp [intOf] <;> omega
      · have e1 : ((j : Int) == k) = false := by simpa using hjk
        have HS2 : Hid (O.runTo 2 k n' l (j + 1) = acc ++ [x]) := Lib.hid (by rw [hsn, O.turn_ne hjk])
        clear hsn
        obtain ⟨V, hV⟩ : ∃ V, W = V := ⟨_, rfl⟩
        rw [hV] at HOV HBV HXV HKV k0 k1 k3 ⊢
        clear hV
        have t0 := HXV.out.b0
        have t1 := HXV.out.b1
        have t2 := HXV.out.b2
        go_wp2_with (at_builtin; refine wpList_appendO rfl (.tmp 31) (.tmp 33) rfl (w.heap.size + 1) v q acc x (by simp [Act.eval]) (ownsRow_below HOV.out ((Below.refl _ V).alloc (Nat.le_refl _) _)) V.heap.size (by simp [Act.eval]) (Blok.new V _ _) (by omega) (by have := HKV.out.lt; simp; omega) ?_; intro g cap w3 h1 h2 h3 h4)
        have HB3 : Hid (Below w.heap.size w w3) := Lib.hid ((HBV.out.alloc HBV.out.size _).grown h2 (Nat.le_trans HBV.out.size (by simp)) (fun i hi => Nat.le_of_succ_le (HOV.out.lt i hi).1))
        have HK3 : Hid (Blok w3 w.heap.size 49 #[.int .i64 2, .int .i64 k, .int .i64 f, .int .i64 n']) := Lib.hid ((HKV.out.alloc _).grown h2 (fun e => by have := (HOV.out.lt _ e.symm).1; omega))
        have H1 := Lib.hid h1
        clear h1 h2 h3 h4
        go_wp2
        go_roundw
        case rel => exact ⟨_, j + 1, q + 1, rfl, by go_num, by omega, by omega, Lib.hid (by rw [HS2.out]; simp [hqa]), by rw [HS2.out]; exact H1, HK3, HB3⟩
        case measure => simp [intOf] <;> omega
    · have dj : decide ((j : Int) < n) = false := by simp; omega
      obtain rfl : j = n := by omega
      have k0 : wr.cell? ⟨w.heap.size, 0, none⟩ = some (.int .i64 2) := HKx.out.cell 0
      have k2 : wr.cell? ⟨w.heap.size, 2, none⟩ = some (.int .i64 f) := HKx.out.cell 2
      have k3 : wr.cell? ⟨w.heap.size, 3, none⟩ = some (.int .i64 n') := HKx.out.cell 3
      go_wp2
      try rw [Exit.noGoto_ret]
      go_ret
      exact ⟨v, q, rfl, HQ.out, Lib.hid (O.base HO.out), HBx.out⟩

set_option maxRecDepth 100000 in
set_option maxHeartbeats 600000 in
theorem done3_run (a : Option Addr) (n c : Nat) (l : List O.Pl) (k f n' : Int) (w : World) (h : QIn w a n c l) (hn : n ≤ 1000) :
    Calls Try.prog 31 #[.slice a n c, .agg #[.int .i64 3, .int .i64 k, .int .i64 f, .int .i64 n']] w fun e w' => ∃ v q, e = .returned v ∧ (O.runTo 3 k n' l n).length = q ∧ Hid (w'.ownsRow w.heap.size 37 3 v q (O.flat (O.runTo 3 k n' l n))) ∧ Below w.heap.size w w' := by
  have HT := Lib.hid h
  have HB0 := Lib.hid (O.tk_below w 3 k f n')
  have HK0 := Lib.hid (O.tk_is w 3 k f n')
  obtain ⟨W0, hW0⟩ : ∃ W, O.tk w 3 k f n' = W := ⟨_, rfl⟩
  rw [hW0] at HB0 HK0
  unfold O.tk at hW0
  clear h
  go_enter Try.func31, Try.ntmps31
  go_wp2_with fail
  go_step3
  go_wp2_with fail
  go_step3
  go_wp2_with fail
  clear hW0
  go_loopw [5, 10] (fun s5 s10 wx => ∃ (v : Value) (j q : Nat), v = s5 ∧ s10 = .int .i64 j ∧ j ≤ n ∧ q ≤ j ∧ Hid ((O.runTo 3 k n' l j).length = q) ∧ Hid (wx.ownsRow (w.heap.size + 1) 37 3 v q (O.flat (O.runTo 3 k n' l j))) ∧ Hid (Blok wx w.heap.size 49 #[.int .i64 3, .int .i64 k, .int .i64 f, .int .i64 n']) ∧ Hid (Below w.heap.size w wx)) (fun _ i _ => n - (intOf i).toNat)
  case atStart => exact ⟨_, 0, 0, rfl, by go_num, by omega, by omega, Lib.hid rfl, Lib.hid (World.ownsRow_nil _ _ _ _), HK0, HB0⟩
  case round =>
    obtain ⟨v, j, q, rfl, rfl, hjn, hqj, HQ, HO, HKx, HBx⟩ := hrel
    by_cases hlt : j < n
    · have dj : decide ((j : Int) < n) = true := by simp; omega
      obtain ⟨b, off, x, rfl, hbl, hx, p0, p1, p2⟩ := (HT.out.below HBx.out).at hlt
      have HX := Lib.hid hx
      have j0 : (0 : Int) ≤ j := by omega
      have j1 : (j : Int) < n := by omega
      have TB := Lib.hid (O.box_below wr x)
      have TK := Lib.hid (O.box_is wr x)
      have HBt := Lib.hid (HBx.out.trans (TB.out.mono HBx.out.size))
      have HOt := Lib.hid (ownsRow_below HO.out TB.out)
      have HKt := Lib.hid (HKx.out.alloc (.cells #[.int .i64 x.f, .int .i64 x.n, .int .i64 x.s] 37))
      have hsn := O.runTo_next (what := 3) (k := k) (n := n') hx
      clear hx
      obtain ⟨acc, hacc⟩ : ∃ acc, O.runTo 3 k n' l j = acc := ⟨_, rfl⟩
      rw [hacc] at HQ HOt hsn
      have hqa : acc.length = q := HQ.out
      clear hacc
      go_upto_region 5 with fail
      obtain ⟨W, hW⟩ : ∃ V, wr.alloc (.cells #[.int .i64 x.f, .int .i64 x.n, .int .i64 x.s] 37) = V := ⟨_, rfl⟩
      have HOV : Hid (W.ownsRow (w.heap.size + 1) 37 3 v q (O.flat acc)) := Lib.hid (by rw [← hW]; exact HOt.out)
      have HBV : Hid (Below w.heap.size w W) := Lib.hid (by rw [← hW]; exact HBt.out)
      have HXV : Hid (O.Bx W wr.heap.size x) := Lib.hid (by rw [← hW]; exact TK.out)
      have HKV : Hid (Blok W w.heap.size 49 #[.int .i64 3, .int .i64 k, .int .i64 f, .int .i64 n']) := Lib.hid (by rw [← hW]; exact HKt.out)
      have HLT := Lib.hid (HO.out)
      rw [hW]
      clear hW p0 p1 p2 TB TK HBt HOt HKt
      have k0 : W.cell? ⟨w.heap.size, 0, none⟩ = some (.int .i64 3) := HKV.out.cell 0
      have k1 : W.cell? ⟨w.heap.size, 1, none⟩ = some (.int .i64 k) := HKV.out.cell 1
      have k3 : W.cell? ⟨w.heap.size, 3, none⟩ = some (.int .i64 n') := HKV.out.cell 3
      by_cases hjk : (j : Int) = k
      · have e1 : ((j : Int) == k) = true := by simpa using hjk
        have HS2 : Hid (O.runTo 3 k n' l (j + 1) = acc) := Lib.hid (by rw [hsn]; unfold O.turn; rw [if_pos hjk, if_neg (by decide), if_neg (by decide), if_pos rfl, List.append_nil])
        clear hsn
        go_wp2
        go_roundw
        case rel => exact ⟨_, j + 1, q, rfl, by go_num, by omega, by omega, Lib.hid (by rw [HS2.out]; exact hqa), by rw [HS2.out]; exact HOV, HKV, HBV⟩
        case measure => simp [intOf] <;> omega
      · have e1 : ((j : Int) == k) = false := by simpa using hjk
        have HS2 : Hid (O.runTo 3 k n' l (j + 1) = acc ++ [x]) := Lib.hid (by rw [hsn, O.turn_ne hjk])
        clear hsn
        obtain ⟨V, hV⟩ : ∃ V, W = V := ⟨_, rfl⟩
        rw [hV] at HOV HBV HXV HKV k0 k1 k3 ⊢
        clear hV
        have t0 := HXV.out.b0
        have t1 := HXV.out.b1
        have t2 := HXV.out.b2
        go_wp2_with (at_builtin; refine wpList_appendO rfl (.tmp 31) (.tmp 33) rfl (w.heap.size + 1) v q acc x (by simp [Act.eval]) (ownsRow_below HOV.out ((Below.refl _ V).alloc (Nat.le_refl _) _)) V.heap.size (by simp [Act.eval]) (Blok.new V _ _) (by omega) (by have := HKV.out.lt; simp; omega) ?_; intro g cap w3 h1 h2 h3 h4)
        have HB3 : Hid (Below w.heap.size w w3) := Lib.hid ((HBV.out.alloc HBV.out.size _).grown h2 (Nat.le_trans HBV.out.size (by simp)) (fun i hi => Nat.le_of_succ_le (HOV.out.lt i hi).1))
        have HK3 : Hid (Blok w3 w.heap.size 49 #[.int .i64 3, .int .i64 k, .int .i64 f, .int .i64 n']) := Lib.hid ((HKV.out.alloc _).grown h2 (fun e => by have := (HOV.out.lt _ e.symm).1; omega))
        have H1 := Lib.hid h1
        clear h1 h2 h3 h4
        go_wp2
        go_roundw
        case rel => exact ⟨_, j + 1, q + 1, rfl, by go_num, by omega, by omega, Lib.hid (by rw [HS2.out]; simp [hqa]), by rw [HS2.out]; exact H1, HK3, HB3⟩
        case measure => simp [intOf] <;> omega
    · have dj : decide ((j : Int) < n) = false := by simp; omega
      obtain rfl : j = n := by omega
      have k0 : wr.cell? ⟨w.heap.size, 0, none⟩ = some (.int .i64 3) := HKx.out.cell 0
      have k2 : wr.cell? ⟨w.heap.size, 2, none⟩ = some (.int .i64 f) := HKx.out.cell 2
      have k3 : wr.cell? ⟨w.heap.size, 3, none⟩ = some (.int .i64 n') := HKx.out.cell 3
      go_wp2
      try rw [Exit.noGoto_ret]
      go_ret
      exact ⟨v, q, rfl, HQ.out, Lib.hid (O.base HO.out), HBx.out⟩
end Go.Proofs.Ytejckbnapcdhpaa
