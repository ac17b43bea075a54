/-
  slices.Clone of leases; lease.Del, lease.Put.
-/
import Derived.Test.YtbnhaoimdponkaaLFind
import Derived.Test.YtbnhaoimdponkaaLIns5
import Derived.Test.YtbnhaoimdponkaaReg2
namespace Go.Proofs.Ytbnhaoimdponkaa
open Go.RowKit

set_option maxRecDepth 100000 in
set_option maxHeartbeats 400000 in
theorem clone5_any (a : Option Addr) (n c : Nat) (l : List L.Ls) (w : World) (hn : n ≤ 1000) (hd : RIn w a n c l) :
    Calls Try.prog 29 #[.slice a n c] w fun e w' => ∃ v, e = .returned v ∧ Hid (w'.ownsRow w.heap.size 30 5 v n (L.flat l)) ∧ Below w.heap.size w w' := by
  have HD := Lib.hid hd
  cases a with
  | none =>
    obtain ⟨rfl, rfl⟩ := hd.2.2.1 rfl
    obtain rfl : l = [] := List.eq_nil_of_length_eq_zero hd.1
    clear hd
    have he : ∀ w : World, (binOp .eql 22 (.slice none 0 0) (.slice none 0 0)).run Try.prog w = .ok (.bool true) w := fun _ => rfl
    go_enter Try.func29, Try.ntmps29
    go_wp2
    go_ret
    exact ⟨_, rfl, Lib.hid (World.ownsRow_nil _ _ _ _), Below.refl _ _⟩
  | some x =>
    clear hd
    have he : ∀ w : World, (binOp .eql 22 (.slice (some x) n c) (.slice none 0 0)).run Try.prog w = .ok (.bool false) w := fun _ => rfl
    go_enter Try.func29, Try.ntmps29
    go_wp2_with (at_builtin; refine wpList_appendRs (α := L.Ls) rfl _ _ 22 30 rfl _ 40 Try.underlying22 lease_parts rfl (by decide) w.heap.size _ 0 [] rfl (L.own_nil (Blok.new w 30 #[]) (Nat.le_refl _)) (some x) n c l rfl (HD.out.below ((Below.refl _ w).alloc (Nat.le_refl _) _)) (by omega) (by simp) ?_; intro v' w2 hown' hgrow)
    go_ret
    rw [Nat.zero_add] at hown'
    have h2 : w2.ownsRow w.heap.size 30 (L.Rec.k L.Ls) v' n (L.flat l) := by simpa using hown'
    exact ⟨v', rfl, Lib.hid h2, ((Below.refl _ w).alloc (Nat.le_refl _) _).grown hgrow (by simp) (fun k ek => by cases ek; exact Nat.le_refl _)⟩

set_option maxRecDepth 100000 in
set_option maxHeartbeats 400000 in
theorem del_any (a : Option Addr) (n c : Nat) (l k : List L.Ls) (at' blk : Int) (b : Bool) (n2 : Nat) (hk : L.del l at' blk = (k, b)) (hn2 : k.length = n2) (w : World) (h : RIn w a n c l) (hn : n ≤ 800) :
    Calls Try.prog 16 #[.slice a n c, .int .i64 at', .int .i64 blk] w fun e w' => ∃ a2 c2, e = .returned (.tuple #[.slice a2 n2 c2, .bool b]) ∧ Hid (RIn w' a2 n2 c2 k) ∧ Below w.heap.size w w' := by
  have HT := Lib.hid h
  have hl := h.1
  have c1 := clone5_any a n c l w (by omega) h
  clear h
  rcases L.find_cases l at' blk with ⟨hf, _⟩ | ⟨i, x, hf, hi, _⟩
  · have e1 : ((-1 : Int) == -1) = true := rfl
    have hd : L.del l at' blk = (l, false) := by unfold L.del; rw [if_pos hf]
    rw [hk] at hd
    obtain ⟨rfl, rfl⟩ := Prod.mk.inj hd
    obtain rfl : n = n2 := by rw [← hn2, hl]
    clear hk hn2 hd
    go_enter Try.func16, Try.ntmps16
    go_wp2_with fail
    refine c1.mono ?_
    rintro e w2 ⟨v, rfl, ho, hb2⟩
    have c2 := find_any a n c k at' blk (-1) hf w2 (HT.out.below hb2) (by omega)
    obtain ⟨a2, cc, rfl, hr⟩ := own_ls ho.out hl
    have HR := Lib.hid hr
    have HB2 := Lib.hid hb2
    clear c1 ho hb2 hr
    go_wp2_with fail
    refine c2.mono ?_
    rintro e w3 ⟨rfl, hb3⟩
    have HR3 := Lib.hid (HR.out.below hb3)
    have HB3 := Lib.hid (HB2.out.trans (hb3.mono HB2.out.size))
    clear c2 hb3
    go_wp2
    go_ret2
    exact ⟨_, _, rfl, HR3, HB3.out⟩
  · have e1 : ((i : Int) == -1) = false := by simp
    have hin : i < n := by rw [← hl]; exact (List.getElem?_eq_some_iff.1 hi).1
    have hd : L.del l at' blk = (l.take i ++ l.drop (i + 1), true) := by unfold L.del; rw [hf, if_neg (by omega), Int.toNat_natCast]
    rw [hk] at hd
    obtain ⟨rfl, rfl⟩ := Prod.mk.inj hd
    have HN2 : Hid (n - 1 = n2) := Lib.hid (by rw [← hn2, List.length_append, List.length_take, List.length_drop] <;> omega)
    clear hk hn2 hd hi
    go_enter Try.func16, Try.ntmps16
    go_wp2_with fail
    refine c1.mono ?_
    rintro e w2 ⟨v, rfl, ho, hb2⟩
    have c2 := find_any a n c l at' blk i hf w2 (HT.out.below hb2) (by omega)
    obtain ⟨g, cc, rfl⟩ : ∃ g cc, v = .slice (some ⟨g, 0, none⟩) n cc := by
      rcases ho.out.2 with ⟨rfl, h0⟩ | ⟨g, cap, _, rfl, _⟩
      · omega
      · exact ⟨g, cap, rfl⟩
    have HO := Lib.hid ho.out
    have HB2 := Lib.hid hb2
    clear c1 ho hb2 hf
    go_wp2_with fail
    refine c2.mono ?_
    rintro e w3 ⟨rfl, hb3⟩
    have HO3 := Lib.hid (ownsRow_below HO.out hb3)
    have HB3 := Lib.hid (HB2.out.trans (hb3.mono HB2.out.size))
    have c3 := delete_any g n cc i (i + 1) w.heap.size l w3 HO3.out hl hin rfl (by omega)
    have hw1 : IntKind.i64.wrap ((i : Int) + 1) = (i : Int) + 1 := by rw [IntKind.wrap_i64]; omega
    have hw2 : (((i + 1 : Nat)) : Int) = (i : Int) + 1 := by omega
    rw [hw2] at c3
    clear c2 hb3
    go_wp2_with fail
    refine c3.mono ?_
    rintro e w4 ⟨rfl, ho4, hg4⟩
    have HB4 : Hid (Below w.heap.size w w4) := Lib.hid (HB3.out.grown hg4.out HB3.out.size (fun k hk => by cases hk; exact (HO3.out.lt g rfl).1))
    obtain ⟨a5, c5, he5, hr5⟩ := own_ls ho4.out (by rw [List.length_append, List.length_take, List.length_drop]; omega)
    cases he5
    have HR5 := Lib.hid hr5
    clear c3 ho4 hg4 hr5
    have hn5 := HN2.out
    subst hn5
    go_wp2
    go_ret2
    exact ⟨_, _, rfl, HR5, HB4.out⟩

theorem L.spot_at (l : List L.Ls) (a b : Int) : L.at1 (L.behind a b) (l.map L.had) (l.length : Int) = (L.spot l a b : Nat) := by
  have h := L.at1_len (L.behind a b) (l.map L.had)
  rw [List.length_map] at h
  rw [h, List.findIdx_map]; rfl
set_option maxRecDepth 100000 in
set_option maxHeartbeats 400000 in
theorem put_any (a : Option Addr) (n c : Nat) (l k : List L.Ls) (x : L.Ls) (b : Bool) (n2 : Nat) (hk : L.put l x = (k, b)) (hn2 : k.length = n2) (w : World) (h : RIn w a n c l) (hn : n ≤ 800) :
    Calls Try.prog 15 #[.slice a n c, L.val x] w fun e w' => ∃ a2 c2, e = .returned (.tuple #[.slice a2 n2 c2, .bool b]) ∧ Hid (RIn w' a2 n2 c2 k) ∧ Below w.heap.size w w' := by
  have HT := Lib.hid h
  have hl := h.1
  obtain ⟨W0, hW0⟩ : ∃ W, w.alloc (.cells #[.int .i64 x.s, .int .i64 x.a, .int .i64 x.b, .int .i64 x.f, .int .i64 x.t] 30) = W := ⟨_, rfl⟩
  have B0 : Below w.heap.size w W0 := by rw [← hW0]; exact (Below.refl _ w).alloc (Nat.le_refl _) _
  have K0 : L.Bx W0 w.heap.size 30 x := by rw [← hW0]; exact Blok.new w _ _
  have HB0 := Lib.hid B0
  have HK0 := Lib.hid K0
  have x1 : W0.cell? ⟨w.heap.size, 1, none⟩ = some (.int .i64 x.a) := Blok.cell K0 1
  have x2 : W0.cell? ⟨w.heap.size, 2, none⟩ = some (.int .i64 x.b) := Blok.cell K0 2
  have hlen := L.put_len l x
  rw [hk, hn2, hl] at hlen
  unfold L.val
  clear h B0 K0
  by_cases h32 : 32 ≤ n
  · have d1 : decide ((32 : Int) ≤ (n : Int)) = true := by simp; omega
    have d2 : decide (32 ≤ n) = true := by simp; omega
    have hp : L.put l x = (l, false) := by unfold L.put; rw [if_pos (.inl (by omega))]
    rw [hk] at hp
    obtain ⟨rfl, rfl⟩ := Prod.mk.inj hp
    obtain rfl : n2 = n := by rw [← hn2, hl]
    have c1 := clone5_any a n2 c k W0 (by omega) (HT.out.below HB0.out)
    clear hk hn2 hp hlen
    go_enter Try.func15, Try.ntmps15
    go_wp2_with fail
    refine c1.mono ?_
    rintro e w2 ⟨v, rfl, ho, hb2⟩
    obtain ⟨a2, cc, rfl, hr⟩ := own_ls ho.out hl
    have HR := Lib.hid hr
    have HB2 := Lib.hid (HB0.out.trans (hb2.mono HB0.out.size))
    clear c1 ho hb2 hr hW0
    go_wp2
    go_ret2
    exact ⟨_, _, rfl, HR, HB2.out⟩
  · have d1 : decide ((32 : Int) ≤ (n : Int)) = false := by simp; omega
    have d2 : decide (32 ≤ n) = false := by simp; omega
    obtain ⟨r, hr⟩ : ∃ r, L.find l x.a x.b = r := ⟨_, rfl⟩
    have cf := find_any a n c l x.a x.b r hr W0 (HT.out.below HB0.out) (by omega)
    by_cases hr1 : r = -1
    · subst hr1
      have e1 : ((-1 : Int) != -1) = false := rfl
      have hp : L.put l x = (l.take (L.spot l x.a x.b) ++ x :: l.drop (L.spot l x.a x.b), true) := by unfold L.put; rw [if_neg (by omega)]
      rw [hk] at hp
      obtain ⟨rfl, rfl⟩ := Prod.mk.inj hp
      have HN2 : Hid (n + 1 = n2) := Lib.hid (by simpa using hlen.symm)
      obtain ⟨sp, hsp⟩ : ∃ sp, L.spot l x.a x.b = sp := ⟨_, rfl⟩
      have hspl : sp ≤ n := by rw [← hsp, ← hl]; exact L.spot_le _ _ _
      have hat := L.spot_at l x.a x.b
      rw [hsp, hl] at hat
      rw [hsp]
      clear hk hn2 hp hr hlen hsp
      go_enter Try.func15, Try.ntmps15
      go_wp2_with fail
      refine cf.mono ?_
      rintro e w2 ⟨rfl, hb2⟩
      have HB2 := Lib.hid (HB0.out.trans (hb2.mono HB0.out.size))
      have HK2 : Hid (L.Bx w2 w.heap.size 30 x) := Lib.hid (Blok.below HK0.out hb2 (Blok.lt HK0.out))
      clear cf hb2 hW0 x1 x2
      have x1 : w2.cell? ⟨w.heap.size, 1, none⟩ = some (.int .i64 x.a) := Blok.cell HK2.out 1
      have x2 : w2.cell? ⟨w.heap.size, 2, none⟩ = some (.int .i64 x.b) := Blok.cell HK2.out 2
      have hwlt : w.heap.size < w2.heap.size := Blok.lt HK2.out
      obtain ⟨W3, hW3⟩ : ∃ W, w2.alloc (.cells #[.int .i64 x.a, .int .i64 x.b] 60) = W := ⟨_, rfl⟩
      have B3 : Below w2.heap.size w2 W3 := by rw [← hW3]; exact (Below.refl _ w2).alloc (Nat.le_refl _) _
      have K3 : Blok W3 w2.heap.size 60 #[.int .i64 x.a, .int .i64 x.b] := by rw [← hW3]; exact Blok.new w2 _ _
      have cl := leases_is a n c l W3 (HT.out.below (HB2.out.trans (B3.mono HB2.out.size))) (by omega)
      go_wp2_with fail
      refine cl.mono ?_
      rintro e w4 ⟨a4, c4, rfl, hr4, hb4, -⟩
      have K4 : Blok w4 w2.heap.size 60 #[.int .i64 x.a, .int .i64 x.b] := K3.below hb4 K3.lt
      have hb24 : Below w2.heap.size w2 w4 := B3.trans (hb4.mono B3.size)
      have HB4 := Lib.hid (HB2.out.trans (hb24.mono HB2.out.size))
      have HK4 : Hid (L.Bx w4 w.heap.size 30 x) := Lib.hid (Blok.below HK2.out hb24 hwlt)
      have cp := had_any (w4.heap.size + 2) a4 n c4 (l.map L.had) 33 (enters_of Try.func33 (by kernel_rfl) rfl) #[.pointer (some ⟨w2.heap.size, 0, none⟩)] _ w4 hr4.out (put1 w2.heap.size x.a x.b w4 K4 w4.heap.size (w4.heap.size + 2) K4.lt (by have := K4.lt; omega)) ⟨by omega, by omega⟩ (hr4.out.off (by omega))
      clear cl hW3 B3 K3 hb4 K4 hb24 x1 x2
      go_wp2_with fail
      refine cp.mono ?_
      rintro e w5 ⟨bl, rfl, hG, hb5, hs5⟩
      have HB5 := Lib.hid (HB4.out.trans (hb5.mono HB4.out.size))
      have HK5 : Hid (L.Bx w5 w.heap.size 30 x) := Lib.hid (Blok.below HK4.out hb5 (Blok.lt HK4.out))
      have cf2 := lfirst_any 54 enters_had bl _ _ _ _ (n : Int) (sp : Int) w5 hG (by omega) (by rw [L.hd_pl]; exact hat)
      clear cp hG hb5
      go_wp2_with fail
      refine cf2.mono ?_
      rintro e w6 ⟨rfl, hb6⟩
      have HB6 := Lib.hid (HB5.out.trans (hb6.mono HB5.out.size))
      have HK6 : Hid (L.Bx w6 w.heap.size 30 x) := Lib.hid (Blok.below HK5.out hb6 (Blok.lt HK5.out))
      clear cf2 hb6
      go_wp2_with fail
      have hN2 := HN2.out
      subst hN2
      have hw6 : w.heap.size < w6.heap.size := Blok.lt HK6.out
      refine wp_region_held (S := fun w' => Below w6.heap.size w6 w') (by kernel_rfl) ?_
      change wpAnyH _ _ _ _ _ _ _ _ (World.drew _)
      have HS0 : (fun w' => Below w6.heap.size w6 w') (World.drew w6) := below_drew w6
      refine wpAnyH_take (i := 0) (v := .slice a n c) rfl (by kernel_rfl) (by kernel_rfl) (by kernel_rfl) (fun _ _ _ h => h) (.inl ⟨by kernel_rfl, fun w9 hS => by kernel_rfl⟩) HS0 ?_
      refine wpAnyH_take (i := 2) (v := .int .i64 sp) rfl (by kernel_rfl) (by kernel_rfl) (by kernel_rfl) (fun _ _ _ h => h) (.inl ⟨by kernel_rfl, fun w9 hS => by kernel_rfl⟩) HS0 ?_
      refine wpAnyH_take (i := 3) (v := .agg #[.int .i64 x.s, .int .i64 x.a, .int .i64 x.b, .int .i64 x.f, .int .i64 x.t]) rfl (by kernel_rfl) (by kernel_rfl) (by kernel_rfl) (fun _ _ _ h => h) (.inl ⟨by kernel_rfl, fun w9 hS => by
        have K9 : L.Bx w9 w.heap.size 30 x := Blok.below HK6.out hS hw6
        have y0 : w9.cell? ⟨w.heap.size, 0, none⟩ = some (.int .i64 x.s) := Blok.cell K9 0
        have y1 : w9.cell? ⟨w.heap.size, 1, none⟩ = some (.int .i64 x.a) := Blok.cell K9 1
        have y2 : w9.cell? ⟨w.heap.size, 2, none⟩ = some (.int .i64 x.b) := Blok.cell K9 2
        have y3 : w9.cell? ⟨w.heap.size, 3, none⟩ = some (.int .i64 x.f) := Blok.cell K9 3
        have y4 : w9.cell? ⟨w.heap.size, 4, none⟩ = some (.int .i64 x.t) := Blok.cell K9 4
        go_simp⟩) HS0 ?_
      refine wpAnyH_two (i := 1) (j := 4) (by kernel_rfl) ?_ ?_
      · refine wpOp_call (f := 29) (args := #[.slice a n c]) rfl (by kernel_rfl) (by kernel_rfl) (clone5_any a n c l _ (by omega) ((HT.out.below HB6.out).below HS0)) ?_
        rintro e w7 ⟨v, rfl, ho, hb7⟩
        have HS1 : (fun w' => Below w6.heap.size w6 w') w7 := Below.trans HS0 (hb7.mono (Below.size HS0))
        refine ⟨_, rfl, HS1, ?_⟩
        refine wpAnyH_one (i := 4) (by kernel_rfl) ?_
        have b7 : Below w7.heap.size w7 (w7.alloc (.cells #[.int .i64 x.s, .int .i64 x.a, .int .i64 x.b, .int .i64 x.f, .int .i64 x.t] 30)) := (Below.refl _ w7).alloc (Nat.le_refl _) _
        have HS2 : (fun w' => Below w6.heap.size w6 w') (w7.alloc (.cells #[.int .i64 x.s, .int .i64 x.a, .int .i64 x.b, .int .i64 x.f, .int .i64 x.t] 30)) := Below.trans HS1 (b7.mono (Below.size HS1))
        refine wpOp_value (v := .slice (some ⟨w7.heap.size, 0, none⟩) 1 1) (w' := w7.alloc (.cells #[.int .i64 x.s, .int .i64 x.a, .int .i64 x.b, .int .i64 x.f, .int .i64 x.t] 30)) rfl (by kernel_rfl) (by kernel_rfl) ⟨HS2, ?_⟩
        refine wpAnyH_call (i := 5) (f := 35) (args := #[v, .int .i64 sp, .slice (some ⟨w7.heap.size, 0, none⟩) 1 1]) (by kernel_rfl) rfl (by kernel_rfl) (by kernel_rfl) (ins5_any v n sp w7.heap.size w6.heap.size 30 l x _ (ownsRow_below (ownsRow_base ho.out (Below.size HS0)) b7) hl (by omega) hspl (Below.size HS2) (Blok.new w7 _ _) (fun e => by have := (ho.out.lt _ e).2; omega)) ?_
        rintro e w8 ⟨g, cg, rfl, ho8, hg8⟩
        have HS3 : (fun w' => Below w6.heap.size w6 w') w8 := Below.grown HS2 hg8.out (Below.size HS2) (fun i hi => Nat.le_trans (Below.size HS0) (ho.out.lt i hi).1)
        refine ⟨_, rfl, HS3, ?_⟩
        obtain ⟨a9, c9, he9, hr9⟩ := own_ls ho8.out (by simp; omega)
        cases he9
        have HR9 := Lib.hid hr9
        have HB9 : Hid (Below w.heap.size w w8) := Lib.hid (HB6.out.trans (Below.mono HS3 HB6.out.size))
        refine wpAnyH_take (i := 6) (v := .slice (some ⟨g, 0, none⟩) (n + 1) cg) rfl (by kernel_rfl) (by kernel_rfl) (by kernel_rfl) (fun _ _ _ h => h) (.inl ⟨by kernel_rfl, fun w9 hS => by kernel_rfl⟩) HS3 ?_
        refine wpAnyH_take (i := 7) (v := .bool true) rfl (by kernel_rfl) (by kernel_rfl) (by kernel_rfl) (fun _ _ _ h => h) (.inl ⟨by kernel_rfl, fun w9 hS => by kernel_rfl⟩) HS3 ?_
        refine wpAnyH_done (by kernel_rfl) ?_ _
        go_wp2
        go_ret2
        exact ⟨_, _, rfl, HR9, HB9.out⟩
      · have b7 : Below w6.heap.size w6.drew (w6.drew.alloc (.cells #[.int .i64 x.s, .int .i64 x.a, .int .i64 x.b, .int .i64 x.f, .int .i64 x.t] 30)) := (Below.refl _ w6.drew).alloc (Nat.le_refl _) _
        have HS1 : (fun w' => Below w6.heap.size w6 w') (w6.drew.alloc (.cells #[.int .i64 x.s, .int .i64 x.a, .int .i64 x.b, .int .i64 x.f, .int .i64 x.t] 30)) := Below.trans HS0 b7
        refine wpOp_value (v := .slice (some ⟨w6.heap.size, 0, none⟩) 1 1) (w' := w6.drew.alloc (.cells #[.int .i64 x.s, .int .i64 x.a, .int .i64 x.b, .int .i64 x.f, .int .i64 x.t] 30)) rfl (by kernel_rfl) (by kernel_rfl) ⟨HS1, ?_⟩
        have KB : L.Bx (w6.drew.alloc (.cells #[.int .i64 x.s, .int .i64 x.a, .int .i64 x.b, .int .i64 x.f, .int .i64 x.t] 30)) w6.heap.size 30 x := Blok.new w6.drew _ _
        obtain ⟨w7, hw7⟩ : ∃ W, w6.drew.alloc (.cells #[.int .i64 x.s, .int .i64 x.a, .int .i64 x.b, .int .i64 x.f, .int .i64 x.t] 30) = W := ⟨_, rfl⟩
        rw [hw7] at HS1 KB ⊢
        refine wpAnyH_call (i := 1) (f := 29) (args := #[.slice a n c]) (by kernel_rfl) rfl (by kernel_rfl) (by kernel_rfl) (clone5_any a n c l _ (by omega) ((HT.out.below HB6.out).below HS1)) ?_
        rintro e w8 ⟨v, rfl, ho, hb8⟩
        have HS2 : (fun w' => Below w6.heap.size w6 w') w8 := Below.trans HS1 (hb8.mono (Below.size HS1))
        refine ⟨_, rfl, HS2, ?_⟩
        refine wpAnyH_call (i := 5) (f := 35) (args := #[v, .int .i64 sp, .slice (some ⟨w6.heap.size, 0, none⟩) 1 1]) (by kernel_rfl) rfl (by kernel_rfl) (by kernel_rfl) (ins5_any v n sp w6.heap.size w6.heap.size 30 l x _ (ownsRow_base ho.out (Below.size HS1)) hl (by omega) hspl (Below.size HS2) (Blok.below KB hb8 (Blok.lt KB)) (fun e => by have := (ho.out.lt _ e).1; have := Blok.lt KB; omega)) ?_
        rintro e w9 ⟨g, cg, rfl, ho8, hg8⟩
        have HS3 : (fun w' => Below w6.heap.size w6 w') w9 := Below.grown HS2 hg8.out (Below.size HS2) (fun i hi => Nat.le_trans (Below.size HS1) (ho.out.lt i hi).1)
        refine ⟨_, rfl, HS3, ?_⟩
        obtain ⟨a9, c9, he9, hr9⟩ := own_ls ho8.out (by simp; omega)
        cases he9
        have HR9 := Lib.hid hr9
        have HB9 : Hid (Below w.heap.size w w9) := Lib.hid (HB6.out.trans (Below.mono HS3 HB6.out.size))
        refine wpAnyH_take (i := 6) (v := .slice (some ⟨g, 0, none⟩) (n + 1) cg) rfl (by kernel_rfl) (by kernel_rfl) (by kernel_rfl) (fun _ _ _ h => h) (.inl ⟨by kernel_rfl, fun w9 hS => by kernel_rfl⟩) HS3 ?_
        refine wpAnyH_take (i := 7) (v := .bool true) rfl (by kernel_rfl) (by kernel_rfl) (by kernel_rfl) (fun _ _ _ h => h) (.inl ⟨by kernel_rfl, fun w9 hS => by kernel_rfl⟩) HS3 ?_
        refine wpAnyH_done (by kernel_rfl) ?_ _
        go_wp2
        go_ret2
        exact ⟨_, _, rfl, HR9, HB9.out⟩
    · have e1 : (r != -1) = true := by simpa using hr1
      have hp : L.put l x = (l, false) := by unfold L.put; rw [if_pos (.inr (by omega))]
      rw [hk] at hp
      obtain ⟨rfl, rfl⟩ := Prod.mk.inj hp
      obtain rfl : n2 = n := by rw [← hn2, hl]
      clear hk hn2 hp hr hlen
      go_enter Try.func15, Try.ntmps15
      go_wp2_with fail
      refine cf.mono ?_
      rintro e w2 ⟨rfl, hb2⟩
      have HB2 := Lib.hid (HB0.out.trans (hb2.mono HB0.out.size))
      have c1 := clone5_any a n2 c k w2 (by omega) (HT.out.below HB2.out)
      clear cf hb2 hW0 x1 x2
      go_wp2_with fail
      refine c1.mono ?_
      rintro e w3 ⟨v, rfl, ho, hb3⟩
      obtain ⟨a2, cc, rfl, hr⟩ := own_ls ho.out hl
      have HR := Lib.hid hr
      have HB3 := Lib.hid (HB2.out.trans (hb3.mono HB2.out.size))
      clear c1 ho hb3 hr
      go_wp2
      go_ret2
      exact ⟨_, _, rfl, HR, HB3.out⟩
end Go.Proofs.Ytbnhaoimdponkaa
