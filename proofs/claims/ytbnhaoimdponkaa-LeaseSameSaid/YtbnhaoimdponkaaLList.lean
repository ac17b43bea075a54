/-
  lease.leases, lease.helds: each by its block, at the same places.
-/
import Derived.Test.YtbnhaoimdponkaaLCl2
import Derived.Deep.Cut
import Derived.Deep.CutRange
namespace Go.Proofs.Ytbnhaoimdponkaa
open Go.RowKit

theorem L.map_snoc {l : List L.Ls} {j : Nat} {x : L.Ls} (hx : l[j]? = some x) : (l.take (j + 1)).map L.had = (l.take j).map L.had ++ [L.had x] := by
  obtain ⟨h0, h1⟩ := List.getElem?_eq_some_iff.1 hx
  rw [List.take_succ_eq_append_getElem h0, List.map_append, h1]; rfl
theorem L.take_snoc {α : Type} {l : List α} {j : Nat} {x : α} (hx : l[j]? = some x) : l.take (j + 1) = l.take j ++ [x] := by
  obtain ⟨h0, h1⟩ := List.getElem?_eq_some_iff.1 hx
  rw [List.take_succ_eq_append_getElem h0, h1]
set_option maxRecDepth 100000 in
set_option maxHeartbeats 400000 in
theorem leases_run (a : Option Addr) (n c : Nat) (l : List L.Ls) (w : World) (h : RIn w a n c l) (hn : n ≤ 1000) :
    Calls Try.prog 32 #[.slice a n c] w fun e w' => ∃ v, e = .returned v ∧ Hid (w'.ownsRow w.heap.size 66 3 v n (L.flat (l.map L.had))) ∧ Below w.heap.size w w' := by
  have HT := Lib.hid h
  clear h
  go_enter Try.func32, Try.ntmps32
  go_wp2_with fail
  go_loopw [3, 8] (fun s3 s8 wx => ∃ (v : Value) (j : Nat), v = s3 ∧ s8 = .int .i64 j ∧ j ≤ n ∧ Hid (wx.ownsRow w.heap.size 66 3 v j (L.flat ((l.take j).map L.had))) ∧ Hid (Below w.heap.size w wx)) (fun _ i _ => n - (intOf i).toNat)
  case atStart => exact ⟨_, 0, rfl, by go_num, by omega, Lib.hid (World.ownsRow_nil _ _ _ _), Lib.hid (Below.refl _ _)⟩
  case round =>
    obtain ⟨v, j, rfl, rfl, hjn, HO, HB⟩ := hrel
    by_cases hlt : j < n
    · have dj : decide ((j : Int) < n) = true := by simp; omega
      obtain ⟨b, off, x, rfl, hbl, hx, p0, p1, p2, p3, p4⟩ := (HT.out.below HB.out).at5 hlt
      have j0 : (0 : Int) ≤ j := by omega
      have j1 : (j : Int) < n := by omega
      have HS := Lib.hid (L.map_snoc hx)
      clear hx
      have TB : Hid (Below wr.heap.size wr (wr.alloc (.cells #[.int .i64 x.s, .int .i64 x.a, .int .i64 x.b, .int .i64 x.f, .int .i64 x.t] 30))) := Lib.hid ((Below.refl _ wr).alloc (Nat.le_refl _) _)
      have TK : Hid (Blok (wr.alloc (.cells #[.int .i64 x.s, .int .i64 x.a, .int .i64 x.b, .int .i64 x.f, .int .i64 x.t] 30)) wr.heap.size 30 #[.int .i64 x.s, .int .i64 x.a, .int .i64 x.b, .int .i64 x.f, .int .i64 x.t]) := Lib.hid (Blok.new _ _ _)
      have HBt := Lib.hid (HB.out.trans (TB.out.mono HB.out.size))
      have HOt := Lib.hid (ownsRow_below HO.out TB.out)
      obtain ⟨acc, hacc⟩ : ∃ acc, (l.take j).map L.had = acc := ⟨_, rfl⟩
      rw [hacc] at HOt HS
      clear hacc
      go_upto_region 5 with fail
      obtain ⟨V, hV⟩ : ∃ V, wr.alloc (.cells #[.int .i64 x.s, .int .i64 x.a, .int .i64 x.b, .int .i64 x.f, .int .i64 x.t] 30) = V := ⟨_, rfl⟩
      rw [hV] at HOt HBt TK ⊢
      clear hV TB p0
      have t0 := Blok.cell TK.out 0
      have t1 := Blok.cell TK.out 1
      have t2 := Blok.cell TK.out 2
      simp only [List.getElem?_toArray, List.getElem?_cons_zero, List.getElem?_cons_succ] at t0 t1 t2
      go_wp2_with (at_builtin; refine wpList_appendR (α := L.T3) rfl (.tmp 12) (.tmp 21) 67 66 rfl _ 24 Try.underlying67 had_parts rfl (by decide) w.heap.size v j acc (L.had x) (by simp [Act.eval]) (ownsRow_below HOt.out ((Below.refl _ V).alloc (Nat.le_refl _) _)) V.heap.size 66 (by simp [Act.eval]) (Blok.new V _ _) (by omega) (by have := HBt.out.size; simp; omega) ?_; intro g cap w3 h1 h2 h3 h4)
      have HB3 : Hid (Below w.heap.size w w3) := Lib.hid ((HBt.out.alloc HBt.out.size _).grown h2 (Nat.le_trans HBt.out.size (by simp)) (fun i hi => (HOt.out.lt i hi).1))
      have H1 := Lib.hid h1
      clear h1 h2 h3 h4
      go_wp2
      go_roundw
      case rel => exact ⟨_, j + 1, rfl, by go_num, by omega, by rw [HS.out]; exact H1, HB3⟩
      case measure => simp [intOf] <;> omega
    · have dj : decide ((j : Int) < n) = false := by simp; omega
      obtain rfl : j = n := by omega
      have HE : Hid (l.take j = l) := Lib.hid (List.take_of_length_le (by rw [HT.out.1]; omega))
      rw [HE.out] at HO
      go_wp2
      go_ret
      exact ⟨_, rfl, HO, HB.out⟩
theorem leases_is (a : Option Addr) (n c : Nat) (l : List L.Ls) (w : World) (h : RIn w a n c l) (hn : n ≤ 1000) :
    Calls Try.prog 32 #[.slice a n c] w fun e w' => ∃ a2 c2, e = .returned (.slice a2 n c2) ∧ Hid (RIn w' a2 n c2 (l.map L.had)) ∧ Below w.heap.size w w' ∧ Hid (∀ x, a2 = some x → w.heap.size ≤ x.block) := by
  refine (leases_run a n c l w h hn).mono ?_
  rintro e w' ⟨v, rfl, ho, hb⟩
  obtain ⟨a2, c2, rfl, ht⟩ := own_t3 ho.out (by have := h.1; simpa using this)
  exact ⟨a2, c2, rfl, Lib.hid ht, hb, Lib.hid (fun x hx => (ho.out.lt x.block (by rw [hx]; rfl)).1)⟩
set_option maxRecDepth 100000 in
set_option maxHeartbeats 400000 in
theorem helds_run (a : Option Addr) (n c : Nat) (l : List L.T3) (w : World) (h : RIn w a n c l) (hn : n ≤ 1000) :
    Calls Try.prog 42 #[.slice a n c] w fun e w' => ∃ v, e = .returned v ∧ Hid (w'.ownsRow w.heap.size 80 3 v n (L.flat (l))) ∧ Below w.heap.size w w' := by
  have HT := Lib.hid h
  clear h
  go_enter Try.func42, Try.ntmps42
  go_wp2_with fail
  go_loopw [3, 8] (fun s3 s8 wx => ∃ (v : Value) (j : Nat), v = s3 ∧ s8 = .int .i64 j ∧ j ≤ n ∧ Hid (wx.ownsRow w.heap.size 80 3 v j (L.flat ((l.take j)))) ∧ Hid (Below w.heap.size w wx)) (fun _ i _ => n - (intOf i).toNat)
  case atStart => exact ⟨_, 0, rfl, by go_num, by omega, Lib.hid (World.ownsRow_nil _ _ _ _), Lib.hid (Below.refl _ _)⟩
  case round =>
    obtain ⟨v, j, rfl, rfl, hjn, HO, HB⟩ := hrel
    by_cases hlt : j < n
    · have dj : decide ((j : Int) < n) = true := by simp; omega
      obtain ⟨b, off, x, rfl, hbl, hx, p0, p1, p2⟩ := (HT.out.below HB.out).at3 hlt
      have j0 : (0 : Int) ≤ j := by omega
      have j1 : (j : Int) < n := by omega
      have HS := Lib.hid (L.take_snoc hx)
      clear hx
      have TB : Hid (Below wr.heap.size wr (wr.alloc (.cells #[.int .i64 x.a, .int .i64 x.b, .int .i64 x.x] 45))) := Lib.hid ((Below.refl _ wr).alloc (Nat.le_refl _) _)
      have TK : Hid (Blok (wr.alloc (.cells #[.int .i64 x.a, .int .i64 x.b, .int .i64 x.x] 45)) wr.heap.size 45 #[.int .i64 x.a, .int .i64 x.b, .int .i64 x.x]) := Lib.hid (Blok.new _ _ _)
      have HBt := Lib.hid (HB.out.trans (TB.out.mono HB.out.size))
      have HOt := Lib.hid (ownsRow_below HO.out TB.out)
      obtain ⟨acc, hacc⟩ : ∃ acc, (l.take j) = acc := ⟨_, rfl⟩
      rw [hacc] at HOt HS
      clear hacc
      go_upto_region 5 with fail
      obtain ⟨V, hV⟩ : ∃ V, wr.alloc (.cells #[.int .i64 x.a, .int .i64 x.b, .int .i64 x.x] 45) = V := ⟨_, rfl⟩
      rw [hV] at HOt HBt TK ⊢
      clear hV TB p0
      have t0 := Blok.cell TK.out 0
      have t1 := Blok.cell TK.out 1
      have t2 := Blok.cell TK.out 2
      simp only [List.getElem?_toArray, List.getElem?_cons_zero, List.getElem?_cons_succ] at t0 t1 t2
      go_wp2_with (at_builtin; refine wpList_appendR (α := L.T3) rfl (.tmp 12) (.tmp 21) 77 80 rfl _ 24 Try.underlying77 kept_parts rfl (by decide) w.heap.size v j acc x (by simp [Act.eval]) (ownsRow_below HOt.out ((Below.refl _ V).alloc (Nat.le_refl _) _)) V.heap.size 80 (by simp [Act.eval]) (Blok.new V _ _) (by omega) (by have := HBt.out.size; simp; omega) ?_; intro g cap w3 h1 h2 h3 h4)
      have HB3 : Hid (Below w.heap.size w w3) := Lib.hid ((HBt.out.alloc HBt.out.size _).grown h2 (Nat.le_trans HBt.out.size (by simp)) (fun i hi => (HOt.out.lt i hi).1))
      have H1 := Lib.hid h1
      clear h1 h2 h3 h4
      go_wp2
      go_roundw
      case rel => exact ⟨_, j + 1, rfl, by go_num, by omega, by rw [HS.out]; exact H1, HB3⟩
      case measure => simp [intOf] <;> omega
    · have dj : decide ((j : Int) < n) = false := by simp; omega
      obtain rfl : j = n := by omega
      have HE : Hid (l.take j = l) := Lib.hid (List.take_of_length_le (by rw [HT.out.1]; omega))
      rw [HE.out] at HO
      go_wp2
      go_ret
      exact ⟨_, rfl, HO, HB.out⟩
theorem helds_is (a : Option Addr) (n c : Nat) (l : List L.T3) (w : World) (h : RIn w a n c l) (hn : n ≤ 1000) :
    Calls Try.prog 42 #[.slice a n c] w fun e w' => ∃ a2 c2, e = .returned (.slice a2 n c2) ∧ Hid (RIn w' a2 n c2 (l)) ∧ Below w.heap.size w w' ∧ Hid (∀ x, a2 = some x → w.heap.size ≤ x.block) := by
  refine (helds_run a n c l w h hn).mono ?_
  rintro e w' ⟨v, rfl, ho, hb⟩
  obtain ⟨a2, c2, rfl, ht⟩ := own_t3 ho.out (by have := h.1; exact this)
  exact ⟨a2, c2, rfl, Lib.hid ht, hb, Lib.hid (fun x hx => (ho.out.lt x.block (by rw [hx]; rfl)).1)⟩
end Go.Proofs.Ytbnhaoimdponkaa
