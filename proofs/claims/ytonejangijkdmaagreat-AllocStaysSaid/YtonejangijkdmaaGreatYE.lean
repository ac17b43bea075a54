import Derived.Test.YtonejangijkdmaaGreatYB
namespace Go.Proofs.YtonejangijkdmaaGreat
set_option maxHeartbeats 1000000
set_option maxRecDepth 100000
open Go.RowKit
namespace Y
def OffL {α : Type} (g : Nat) (a : Option Addr) (l : List α) : Prop := l = [] \/ Off g a
theorem row_off {α : Type} [L.Rec α] {w w' : World} {a : Option Addr} {n c : Nat} {l : List α} {row : Option Nat} (h : RIn w a n c l) (hg : w.grownBy w' row) (ho : ∀ g, row = some g -> OffL g a l) : RIn w' a n c l := by
 cases row with
 | none => exact h.on hg
 | some g =>
  rcases ho g rfl with h0 | ho
  ·exact ⟨h.1, h.2.1, h.2.2.1, .inl h0⟩
  ·exact off_row h ho hg
theorem pool_off {w w' : World} {a : Option Addr} {n c : Nat} {l : List O.Pl} {row : Option Nat} (h : QIn w a n c l) (hg : w.grownBy w' row) (ho : ∀ g, row = some g -> OffL g a l) : QIn w' a n c l := by
 cases row with
 | none => exact h.on hg
 | some g =>
  rcases ho g rfl with h0 | ho
  ·exact ⟨h.1, h.2.1, h.2.2.1, .inl h0⟩
  ·exact off_pool h ho hg
theorem row_fresh {α : Type} [L.Rec α] {w : World} {a : Option Addr} {n c : Nat} {l : List α} {g : Nat} (h : RIn w a n c l) (hg : w.heap.size <= g) : OffL g a l := by
 rcases h.2.2.2 with h0 | ⟨b, off, rfl, hlt, _⟩
 ·exact .inl h0
 ·exact .inr fun x hx e => by cases hx; simp at e; omega
theorem pool_fresh {w : World} {a : Option Addr} {n c : Nat} {l : List O.Pl} {g : Nat} (h : QIn w a n c l) (hg : w.heap.size <= g) : OffL g a l := by
 rcases h.2.2.2 with h0 | ⟨b, off, rfl, hlt, _⟩
 ·exact .inl h0
 ·exact .inr fun x hx e => by cases hx; simp at e; omega
structure WIn (w : World) (H b : Nat) (s : St) (A : A9) (evs : List Ev) (ve : Value) (x y : Int) : Prop where
 k : Blok w b 84 (ws s A ve 0 x y).toArray
 i : SIn w A s
 op : Off b A.ap
 oh : Off b A.ah
 ev : w.ownsRow H 66 9 ve evs.length (V.flat evs)
 bh : b < H
 hh : H <= w.heap.size
 oe : ∀ g, ve.ownBlock = some g -> OffL g A.ap s.ps /\ OffL g A.al s.l /\ OffL g A.ah s.h
theorem WIn.below {w w' : World} {H b : Nat} {s : St} {A : A9} {evs : List Ev} {ve : Value} {x y : Int} (h : WIn w H b s A evs ve x y) (hb : Below w.heap.size w w') : WIn w' H b s A evs ve x y :=
 ⟨h.k.below hb h.k.lt, h.i.below hb, h.op, h.oh, zab h.ev hb, h.bh, Nat.le_trans h.hh hb.size, h.oe⟩
theorem ev_ne {w : World} {H n : Nat} {v : Value} {xs : List Value} (h : w.ownsRow H 66 9 v n xs) : ∀ i, v ≠ .int .i64 i := by
 intro i e
 rcases h.2 with ⟨h0, _⟩ | ⟨q, cap, cur, h1, _⟩
 ·rw [h0] at e; cases e
 ·rw [h1] at e; cases e
theorem ev_off {w : World} {H n b : Nat} {v : Value} {xs : List Value} (h : w.ownsRow H 66 9 v n xs) (hb : b < H) : v.ownBlock ≠ some b := fun e => by have := (h.lt b e).1; omega
theorem WIn.say {w : World} {H b : Nat} {s : St} {A : A9} {evs : List Ev} {ve : Value} {x y : Int} (h : WIn w H b s A evs ve x y) (p q : Int) :
  WIn ((w.setCell ⟨b, 18, none⟩ (.int .i64 p)).setCell ⟨b, 19, none⟩ (.int .i64 q)) H b s A evs ve p q /\ KpL H b w ((w.setCell ⟨b, 18, none⟩ (.int .i64 p)).setCell ⟨b, 19, none⟩ (.int .i64 q)) := by
 have g1 := grown_set w b 18 (.int .i64 p)
 have k1 := set_x h.k p
 have g2 := grown_set (w.setCell ⟨b, 18, none⟩ (.int .i64 p)) b 19 (.int .i64 q)
 have k2 := set_y k1 q
 refine ⟨⟨k2, ⟨off_pool (off_pool h.i.p h.op g1) h.op g2, ls_set (ls_set h.i.l h.k (ev_ne h.ev) 18 (by omega) _) k1 (ev_ne h.ev) 19 (by omega) _, off_row (off_row h.i.h h.oh g1) h.oh g2⟩, h.op, h.oh, ?_, h.bh, by simpa using h.hh, h.oe⟩, (KpL.set H b 18 w _).t (KpL.set H b 19 _ _)⟩
 exact (h.ev.kept g1 (.inr (ev_off h.ev h.bh))).kept g2 (.inr (ev_off h.ev h.bh))
theorem WIn.tell {w w1 : World} {H b : Nat} {s : St} {A : A9} {evs evs2 : List Ev} {ve v2 : Value} {x y : Int} (h : WIn w H b s A evs ve x y) (k : KpL H b w w1) (kb : Blok w1 b 84 (ws s A ve 0 x y).toArray) (ki : SIn w1 A s) (ho : w1.ownsRow H 66 9 v2 evs2.length (V.flat evs2)) (hoe : ∀ g, v2.ownBlock = some g -> OffL g A.ap s.ps /\ OffL g A.al s.l /\ OffL g A.ah s.h) :
  WIn (w1.setCell ⟨b, 16, none⟩ v2) H b s A evs2 v2 x y /\ KpL H b w (w1.setCell ⟨b, 16, none⟩ v2) := by
 have g1 := grown_set w1 b 16 v2
 refine ⟨⟨set_e kb v2, ⟨off_pool ki.p h.op g1, ls_set ki.l kb (ev_ne h.ev) 16 (by omega) _, off_row ki.h h.oh g1⟩, h.op, h.oh, ho.kept g1 (.inr (ev_off ho h.bh)), h.bh, ?_, hoe⟩, k.t (KpL.set H b 16 w1 _)⟩
 have := h.hh; have := k.1.size; simp; omega
theorem WIn.l {w w1 : World} {H b : Nat} {s : St} {A : A9} {evs : List Ev} {ve : Value} {x y : Int} (h : WIn w H b s A evs ve x y) (hb : Below w.heap.size w w1) {a : Option Addr} {n c : Nat} {l : List L.Ls} (hl : RIn w1 a n c l) (hoe : ∀ g, ve.ownBlock = some g -> OffL g a l) :
  WIn (w1.setCell ⟨b, 14, none⟩ (.slice a n c)) H b { s with l := l } { A with al := a, nl := n, cl := c } evs ve x y /\ KpL H b w (w1.setCell ⟨b, 14, none⟩ (.slice a n c)) := by
 have h1 := h.below hb
 have g1 := grown_set w1 b 14 (.slice a n c)
 exact ⟨⟨set_l h1.k a n c l, ⟨off_pool h1.i.p h1.op g1, ls_set hl h1.k (ev_ne h1.ev) 14 (by omega) _, off_row h1.i.h h1.oh g1⟩, h1.op, h1.oh, h1.ev.kept g1 (.inr (ev_off h1.ev h1.bh)), h1.bh, by simpa using h1.hh, fun g hg => ⟨(h1.oe g hg).1, hoe g hg, (h1.oe g hg).2.2⟩⟩, (KpL.of_below hb h.hh).t (KpL.set H b 14 w1 _)⟩
theorem WIn.h {w w1 : World} {H b : Nat} {s : St} {A : A9} {evs : List Ev} {ve : Value} {x y : Int} (h : WIn w H b s A evs ve x y) (hb : Below w.heap.size w w1) {a : Option Addr} {n c : Nat} {l : List L.T3} (hl : RIn w1 a n c l) (ho : Off b a) (hoe : ∀ g, ve.ownBlock = some g -> OffL g a l) :
  WIn (w1.setCell ⟨b, 15, none⟩ (.slice a n c)) H b { s with h := l } { A with ah := a, nh := n, ch := c } evs ve x y /\ KpL H b w (w1.setCell ⟨b, 15, none⟩ (.slice a n c)) := by
 have h1 := h.below hb
 have g1 := grown_set w1 b 15 (.slice a n c)
 exact ⟨⟨set_h h1.k a n c l, ⟨off_pool h1.i.p h1.op g1, ls_set h1.i.l h1.k (ev_ne h1.ev) 15 (by omega) _, off_row hl ho g1⟩, h1.op, ho, h1.ev.kept g1 (.inr (ev_off h1.ev h1.bh)), h1.bh, by simpa using h1.hh, fun g hg => ⟨(h1.oe g hg).1, (h1.oe g hg).2.1, hoe g hg⟩⟩, (KpL.of_below hb h.hh).t (KpL.set H b 15 w1 _)⟩
theorem WIn.now {w : World} {H b : Nat} {s : St} {A : A9} {evs : List Ev} {ve : Value} {x y : Int} (h : WIn w H b s A evs ve x y) (t : Int) :
  WIn (w.setCell ⟨b, 12, none⟩ (.int .i64 t)) H b { s with now := t } A evs ve x y /\ KpL H b w (w.setCell ⟨b, 12, none⟩ (.int .i64 t)) := by
 have g1 := grown_set w b 12 (.int .i64 t)
 exact ⟨⟨set_now h.k t, ⟨off_pool h.i.p h.op g1, ls_set h.i.l h.k (ev_ne h.ev) 12 (by omega) _, off_row h.i.h h.oh g1⟩, h.op, h.oh, h.ev.kept g1 (.inr (ev_off h.ev h.bh)), h.bh, by simpa using h.hh, h.oe⟩, KpL.set H b 12 w _⟩
theorem WIn.x {w : World} {H b : Nat} {s : St} {A : A9} {evs : List Ev} {ve : Value} {x y : Int} (h : WIn w H b s A evs ve x y) (t : Int) :
  WIn (w.setCell ⟨b, 18, none⟩ (.int .i64 t)) H b s A evs ve t y /\ KpL H b w (w.setCell ⟨b, 18, none⟩ (.int .i64 t)) := by
 have g1 := grown_set w b 18 (.int .i64 t)
 exact ⟨⟨set_x h.k t, ⟨off_pool h.i.p h.op g1, ls_set h.i.l h.k (ev_ne h.ev) 18 (by omega) _, off_row h.i.h h.oh g1⟩, h.op, h.oh, h.ev.kept g1 (.inr (ev_off h.ev h.bh)), h.bh, by simpa using h.hh, h.oe⟩, KpL.set H b 18 w _⟩
theorem pool_set {w : World} {b : Nat} {a : Option Addr} {n c : Nat} {l : List O.Pl} (h : QIn w a n c l) {j : Nat} {u v : Value} (hu : w.cell? ⟨b, j, none⟩ = some u) (hn : ∀ i, u ≠ .int .i64 i) : QIn (w.setCell ⟨b, j, none⟩ v) a n c l := by
 refine ⟨h.1, h.2.1, h.2.2.1, ?_⟩
 rcases h.2.2.2 with h0 | ⟨g, off, rfl, hlt, hc⟩
 ·exact .inl h0
 ·refine .inr ⟨g, off, rfl, by simpa using hlt, fun i x hi => ?_⟩
  obtain ⟨c0, c1, c2⟩ := hc i x hi
  have ne : ∀ o v', w.cell? ⟨g, o, none⟩ = some (.int .i64 v') -> (⟨g, o, none⟩ : Addr) ≠ ⟨b, j, none⟩ := fun o v' h1 e => by
   rw [e, hu] at h1; exact hn v' (Option.some.inj h1)
  refine ⟨?_, ?_, ?_⟩
  ·rw [World.cell?_setCell_other]
   ·exact c0
   ·first | exact ne _ _ c0 | exact (ne _ _ c0).symm
  ·rw [World.cell?_setCell_other]
   ·exact c1
   ·first | exact ne _ _ c1 | exact (ne _ _ c1).symm
  ·rw [World.cell?_setCell_other]
   ·exact c2
   ·first | exact ne _ _ c2 | exact (ne _ _ c2).symm
structure Fin (w : World) (b : Nat) (s : St) (A : A9) (evs : List Ev) (ve : Value) (x y : Int) : Prop where
 k : Blok w b 84 (ws s A ve 0 x y).toArray
 i : SIn w A s
 ev : ∃ a c, ve = .slice a evs.length c /\ VIn w a evs.length c evs
 eh : ∀ q, ve.ownBlock = some q -> b < q
theorem WIn.fin {w : World} {H b : Nat} {s : St} {A : A9} {evs : List Ev} {ve : Value} {x y : Int} (h : WIn w H b s A evs ve x y) : Fin w b s A evs ve x y :=
 ⟨h.k, h.i, (by obtain ⟨a, c, h1, h2⟩ := ze3 (α := Ev) h.ev rfl; exact ⟨a, c, h1, h2⟩), fun q hq => Nat.lt_of_lt_of_le h.bh (h.ev.lt q hq).1⟩
end Y
open Go.RowKit
theorem zd6 (H b : Nat) (s : Y.St) (A : Y.A9) (evs : List Y.Ev) (ve : Value) (x y : Int) (p q : Int) (w : World) (h : Y.WIn w H b s A evs ve x y) :
  Calls Tryz.prog 136 #[.pointer (some ⟨b, 0, none⟩), .int .i64 p, .int .i64 q] w fun e w' => e = .returned (.tuple #[]) /\ Y.WIn w' H b s A evs ve p q /\ KpL H b w w' := by
 have HS := Zh h
 have c18 := Zv h.k 18 (.int .i64 x)
 have c19 := Zv h.k 19 (.int .i64 y)
 have f18 := h.k.frozen 18
 have f19 := h.k.frozen 19
 clear h
 go_enter Tryz.func136, Tryz.ntmps136
 go_wp2
 go_end0
 exact ⟨rfl, HS.out.say p q⟩
theorem zb9 (V : World) (o : Obj) : Below V.heap.size V (V.drew.alloc o) := (zaa V).alloc (Nat.le_refl _) o
theorem zc6 {w : World} {ops : Array Oper} {o : Oper} {a : Act} {K : Act -> World -> Prop} {Q : Exit -> Act -> World -> Prop} {E : Prop} (hgd : o.guard = none) (s x : Operand)
  (ho : o.op = .call { callee := .builtin .append, args := #[s, x], argTypes := #[37, 37] })
  (B : Nat) (v : Value) (p : Nat) (l : List Y.Ev) (tm : Y.Ev) (hs : a.eval s = v) (hown : w.ownsRow B 66 9 v p (V.flat l)) (nb : Nat) (t' : TypeId) (hx : a.eval x = .slice (some ⟨nb, 0, none⟩) 1 1) (hb : V.Bx w nb t' tm) (hp : p <= 10000) (hB : B <= w.heap.size)
  (h : ∀ g cap w', w'.ownsRow B 66 9 (.slice (some ⟨g, 0, none⟩) (p + 1) cap) (p + 1) (V.flat (l ++ [tm])) -> w.grownBy w' v.ownBlock -> (v.ownBlock = some g \/ g = w.heap.size) -> g < w'.heap.size -> K (a.put o.dst (.slice (some ⟨g, 0, none⟩) (p + 1) cap)) w') :
  if Region.wanted o (yielded ops a.tmps) = true then Oper.wp Tryz.prog o a w K Q else E := by
 obtain ⟨i0, hi, hz0, hz1, hz2⟩ := zcj
 exact step_append_lies w hgd s x 37 ho B 66 i0 _ 9 72 Tryz.underlying37 hi hz0 hz1 hz2 rfl (by decide) v p (V.flat l) hs hown ⟨nb, 0, none⟩ 1 1 (V.cells tm) hx rfl (V.cell_one hb) (V.cells_one tm) (by decide) (by unfold maxLen; omega) (by omega) hB w.heap.size rfl
  (fun g cap w' h1 h2 h3 h4 => h g cap w' (by rw [V.flat_append]; simpa [V.flat] using h1) h2 h3 h4)
theorem zcu (H b : Nat) (s : Y.St) (A : Y.A9) (evs : List Y.Ev) (ve : Value) (x y : Int) (z : Y.Ev) (w : World) (h : Y.WIn w H b s A evs ve x y) (hn : evs.length <= 3000) :
  Calls Tryz.prog 137 #[.pointer (some ⟨b, 0, none⟩), Y.eval z] w fun e w' => e = .returned (.tuple #[]) /\ ∃ v2, Y.WIn w' H b s A (evs ++ [z]) v2 x y /\ KpL H b w w' := by
 have HS0 := Zh h
 have hlen := hn
 clear h
 unfold Y.eval
 go_enter Tryz.func137, Tryz.ntmps137
 go_wp2_with fail
 obtain ⟨U, hV⟩ : ∃ U, w.alloc (.cells #[.int .i64 z.k, .int .i64 z.t, .int .i64 z.a, .int .i64 z.b, .int .i64 z.c, .int .i64 z.p.q, .int .i64 z.p.i, .int .i64 z.p.h, .bool z.p.pair] 66) = U := ⟨_, rfl⟩
 have hb : Below w.heap.size w U := by rw [<- hV]; exact (Below.refl _ w).alloc (Nat.le_refl _) _
 have hk : Blok U w.heap.size 66 #[.int .i64 z.k, .int .i64 z.t, .int .i64 z.a, .int .i64 z.b, .int .i64 z.c, .int .i64 z.p.q, .int .i64 z.p.i, .int .i64 z.p.h, .bool z.p.pair] := by rw [<- hV]; exact Blok.new w _ _
 rw [hV]
 clear hV
 have HS := Zh (HS0.out.below hb)
 have HVB := Zh hb
 have e0 := Zv hk 0 (.int .i64 z.k)
 have ef0 : ∀ o, (U.alloc o).cell? ⟨w.heap.size, 0, none⟩ = some (.int .i64 z.k) := fun o => (hk.alloc o).cell 0
 have eg0 : ∀ o, (U.drew.alloc o).cell? ⟨w.heap.size, 0, none⟩ = some (.int .i64 z.k) := fun o => (hk.drew.alloc o).cell 0
 have e1 := Zv hk 1 (.int .i64 z.t)
 have ef1 : ∀ o, (U.alloc o).cell? ⟨w.heap.size, 1, none⟩ = some (.int .i64 z.t) := fun o => (hk.alloc o).cell 1
 have eg1 : ∀ o, (U.drew.alloc o).cell? ⟨w.heap.size, 1, none⟩ = some (.int .i64 z.t) := fun o => (hk.drew.alloc o).cell 1
 have e2 := Zv hk 2 (.int .i64 z.a)
 have ef2 : ∀ o, (U.alloc o).cell? ⟨w.heap.size, 2, none⟩ = some (.int .i64 z.a) := fun o => (hk.alloc o).cell 2
 have eg2 : ∀ o, (U.drew.alloc o).cell? ⟨w.heap.size, 2, none⟩ = some (.int .i64 z.a) := fun o => (hk.drew.alloc o).cell 2
 have e3 := Zv hk 3 (.int .i64 z.b)
 have ef3 : ∀ o, (U.alloc o).cell? ⟨w.heap.size, 3, none⟩ = some (.int .i64 z.b) := fun o => (hk.alloc o).cell 3
 have eg3 : ∀ o, (U.drew.alloc o).cell? ⟨w.heap.size, 3, none⟩ = some (.int .i64 z.b) := fun o => (hk.drew.alloc o).cell 3
 have e4 := Zv hk 4 (.int .i64 z.c)
 have ef4 : ∀ o, (U.alloc o).cell? ⟨w.heap.size, 4, none⟩ = some (.int .i64 z.c) := fun o => (hk.alloc o).cell 4
 have eg4 : ∀ o, (U.drew.alloc o).cell? ⟨w.heap.size, 4, none⟩ = some (.int .i64 z.c) := fun o => (hk.drew.alloc o).cell 4
 have e5 := Zv hk 5 (.int .i64 z.p.q)
 have ef5 : ∀ o, (U.alloc o).cell? ⟨w.heap.size, 5, none⟩ = some (.int .i64 z.p.q) := fun o => (hk.alloc o).cell 5
 have eg5 : ∀ o, (U.drew.alloc o).cell? ⟨w.heap.size, 5, none⟩ = some (.int .i64 z.p.q) := fun o => (hk.drew.alloc o).cell 5
 have e6 := Zv hk 6 (.int .i64 z.p.i)
 have ef6 : ∀ o, (U.alloc o).cell? ⟨w.heap.size, 6, none⟩ = some (.int .i64 z.p.i) := fun o => (hk.alloc o).cell 6
 have eg6 : ∀ o, (U.drew.alloc o).cell? ⟨w.heap.size, 6, none⟩ = some (.int .i64 z.p.i) := fun o => (hk.drew.alloc o).cell 6
 have e7 := Zv hk 7 (.int .i64 z.p.h)
 have ef7 : ∀ o, (U.alloc o).cell? ⟨w.heap.size, 7, none⟩ = some (.int .i64 z.p.h) := fun o => (hk.alloc o).cell 7
 have eg7 : ∀ o, (U.drew.alloc o).cell? ⟨w.heap.size, 7, none⟩ = some (.int .i64 z.p.h) := fun o => (hk.drew.alloc o).cell 7
 have e8 := Zv hk 8 (.bool z.p.pair)
 have ef8 : ∀ o, (U.alloc o).cell? ⟨w.heap.size, 8, none⟩ = some (.bool z.p.pair) := fun o => (hk.alloc o).cell 8
 have eg8 : ∀ o, (U.drew.alloc o).cell? ⟨w.heap.size, 8, none⟩ = some (.bool z.p.pair) := fun o => (hk.drew.alloc o).cell 8
 have r0 : U.cell? ⟨b, 16, none⟩ = some ve := HS.out.k.cell 16
 have r1 : ∀ o, (U.alloc o).cell? ⟨b, 16, none⟩ = some ve := fun o => (HS.out.k.alloc o).cell 16
 have r2 : ∀ o, (U.drew.alloc o).cell? ⟨b, 16, none⟩ = some ve := fun o => (HS.out.k.drew.alloc o).cell 16
 clear hk hb
 go_region_law (refine zc6 rfl (.tmp 8) (.tmp 10) rfl H ve _ evs z (by simp [Act.eval]) (zab HS.out.ev (zb9 _ _)) U.heap.size 66 (by simp [Act.eval]) (Blok.new U.drew _ _) (by omega) (Nat.le_trans HS.out.hh (by simp)) ?_; intro g cap w3 h1 h2 h3 h4; have HK3 := Zh ((HS.out.k.below (zb9 U _) HS.out.k.lt).grown h2 (fun e => Y.ev_off HS.out.ev HS.out.bh e.symm)); have r3 : w3.cell? ⟨b, 16, none⟩ = some ve := (HK3.out.cell 16); have f3 := HK3.out.frozen 16)
 all_goals (
  clear r0 r1 r2 r3 f3 e0 ef0 eg0 e1 ef1 eg1 e2 ef2 eg2 e3 ef3 eg3 e4 ef4 eg4 e5 ef5 eg5 e6 ef6 eg6 e7 ef7 eg7 e8 ef8 eg8
  have hbd := zb9 U (.cells #[.int .i64 z.k, .int .i64 z.t, .int .i64 z.a, .int .i64 z.b, .int .i64 z.c, .int .i64 z.p.q, .int .i64 z.p.i, .int .i64 z.p.h, .bool z.p.pair] 66)
  have k3 : KpL H b U w3 := (KpL.of_below hbd HS.out.hh).t (KpL.grown h2 (fun g' e => .inl ((HS.out.ev.lt g' e).1)) (Nat.le_trans HS.out.hh hbd.size))
  have i3 : Y.SIn w3 A s := ⟨Y.pool_off (HS.out.i.p.below hbd) h2 (fun g' e => (HS.out.oe g' e).1), Y.row_off (HS.out.i.l.below hbd) h2 (fun g' e => (HS.out.oe g' e).2.1), Y.row_off (HS.out.i.h.below hbd) h2 (fun g' e => (HS.out.oe g' e).2.2)⟩
  have o3 : w3.ownsRow H 66 9 (.slice (some ⟨g, 0, none⟩) (evs.length + 1) cap) (evs ++ [z]).length (V.flat (evs ++ [z])) := by rw [List.length_append]; exact h1
  have oe3 : ∀ g', (Value.slice (some ⟨g, 0, none⟩) (evs.length + 1) cap).ownBlock = some g' -> Y.OffL g' A.ap s.ps /\ Y.OffL g' A.al s.l /\ Y.OffL g' A.ah s.h := fun g' e => by
   obtain rfl : g = g' := Option.some.inj e
   rcases h3 with h3 | h3
   ·exact HS.out.oe _ h3
   ·have hsz : U.heap.size <= g := by rw [h3]; exact hbd.size
    exact ⟨Y.pool_fresh HS.out.i.p hsz, Y.row_fresh HS.out.i.l hsz, Y.row_fresh HS.out.i.h hsz⟩
  obtain ⟨hw, kw⟩ := HS.out.tell k3 HK3.out i3 o3 oe3
  have HW := Zh hw
  have KW := Zh ((KpL.of_below HVB.out HS0.out.hh).t kw)
  clear h1 h2 h3 h4 k3 i3 o3 oe3 hw kw hbd
  go_wp2
  first | go_end0 | skip
  exact ⟨rfl, _, HW.out, KW.out⟩)
open Go.RowKit
namespace Y
theorem cw20 {w : World} {H b : Nat} {s : St} {ap : Option Addr} {np cp : Nat} {al : Option Addr} {nl cl : Nat} {ah : Option Addr} {nh ch : Nat} {evs : List Ev} {ve : Value} {x y : Int} (h : WIn w H b s ⟨ap, np, cp, al, nl, cl, ah, nh, ch⟩ evs ve x y) :
  w.cell? ⟨b, 0, none⟩ = some (.int .i64 s.d.b) /\ w.cell? ⟨b, 1, none⟩ = some (.int .i64 s.d.k) /\ w.cell? ⟨b, 2, none⟩ = some (.int .i64 s.d.c) /\ w.cell? ⟨b, 3, none⟩ = some (.int .i64 s.d.j) /\ w.cell? ⟨b, 4, none⟩ = some (.int .i64 s.d.lo) /\ w.cell? ⟨b, 5, none⟩ = some (.int .i64 s.d.hi) /\ w.cell? ⟨b, 6, none⟩ = some (.int .i64 s.d.dy) /\ w.cell? ⟨b, 7, none⟩ = some (.int .i64 s.d.bl) /\ w.cell? ⟨b, 8, none⟩ = some (.int .i64 s.p.q) /\ w.cell? ⟨b, 9, none⟩ = some (.int .i64 s.p.i) /\ w.cell? ⟨b, 10, none⟩ = some (.int .i64 s.p.h) /\ w.cell? ⟨b, 11, none⟩ = some (.bool s.p.pair) /\ w.cell? ⟨b, 12, none⟩ = some (.int .i64 s.now) /\ w.cell? ⟨b, 13, none⟩ = some (.slice ap np cp) /\ w.cell? ⟨b, 14, none⟩ = some (.slice al nl cl) /\ w.cell? ⟨b, 15, none⟩ = some (.slice ah nh ch) /\ w.cell? ⟨b, 16, none⟩ = some (ve) /\ w.cell? ⟨b, 17, none⟩ = some (.int .i64 0) /\ w.cell? ⟨b, 18, none⟩ = some (.int .i64 x) /\ w.cell? ⟨b, 19, none⟩ = some (.int .i64 y) := ⟨h.k.cell 0, h.k.cell 1, h.k.cell 2, h.k.cell 3, h.k.cell 4, h.k.cell 5, h.k.cell 6, h.k.cell 7, h.k.cell 8, h.k.cell 9, h.k.cell 10, h.k.cell 11, h.k.cell 12, h.k.cell 13, h.k.cell 14, h.k.cell 15, h.k.cell 16, h.k.cell 17, h.k.cell 18, h.k.cell 19⟩
theorem cw20q {w : World} {H b : Nat} {s : St} {ap : Option Addr} {np cp : Nat} {al : Option Addr} {nl cl : Nat} {ah : Option Addr} {nh ch : Nat} {evs : List Ev} {ve : Value} {x y : Int} (h : WIn w H b s ⟨ap, np, cp, al, nl, cl, ah, nh, ch⟩ evs ve x y) :
  (∀ d os, (Go.Sort.grow (redrawn w d) os).cell? ⟨b, 0, none⟩ = some (.int .i64 s.d.b)) /\ (∀ d os, (Go.Sort.grow (redrawn w d) os).cell? ⟨b, 1, none⟩ = some (.int .i64 s.d.k)) /\ (∀ d os, (Go.Sort.grow (redrawn w d) os).cell? ⟨b, 2, none⟩ = some (.int .i64 s.d.c)) /\ (∀ d os, (Go.Sort.grow (redrawn w d) os).cell? ⟨b, 3, none⟩ = some (.int .i64 s.d.j)) /\ (∀ d os, (Go.Sort.grow (redrawn w d) os).cell? ⟨b, 4, none⟩ = some (.int .i64 s.d.lo)) /\ (∀ d os, (Go.Sort.grow (redrawn w d) os).cell? ⟨b, 5, none⟩ = some (.int .i64 s.d.hi)) /\ (∀ d os, (Go.Sort.grow (redrawn w d) os).cell? ⟨b, 6, none⟩ = some (.int .i64 s.d.dy)) /\ (∀ d os, (Go.Sort.grow (redrawn w d) os).cell? ⟨b, 7, none⟩ = some (.int .i64 s.d.bl)) /\ (∀ d os, (Go.Sort.grow (redrawn w d) os).cell? ⟨b, 8, none⟩ = some (.int .i64 s.p.q)) /\ (∀ d os, (Go.Sort.grow (redrawn w d) os).cell? ⟨b, 9, none⟩ = some (.int .i64 s.p.i)) /\ (∀ d os, (Go.Sort.grow (redrawn w d) os).cell? ⟨b, 10, none⟩ = some (.int .i64 s.p.h)) /\ (∀ d os, (Go.Sort.grow (redrawn w d) os).cell? ⟨b, 11, none⟩ = some (.bool s.p.pair)) /\ (∀ d os, (Go.Sort.grow (redrawn w d) os).cell? ⟨b, 12, none⟩ = some (.int .i64 s.now)) /\ (∀ d os, (Go.Sort.grow (redrawn w d) os).cell? ⟨b, 13, none⟩ = some (.slice ap np cp)) /\ (∀ d os, (Go.Sort.grow (redrawn w d) os).cell? ⟨b, 14, none⟩ = some (.slice al nl cl)) /\ (∀ d os, (Go.Sort.grow (redrawn w d) os).cell? ⟨b, 15, none⟩ = some (.slice ah nh ch)) /\ (∀ d os, (Go.Sort.grow (redrawn w d) os).cell? ⟨b, 16, none⟩ = some (ve)) /\ (∀ d os, (Go.Sort.grow (redrawn w d) os).cell? ⟨b, 17, none⟩ = some (.int .i64 0)) /\ (∀ d os, (Go.Sort.grow (redrawn w d) os).cell? ⟨b, 18, none⟩ = some (.int .i64 x)) /\ (∀ d os, (Go.Sort.grow (redrawn w d) os).cell? ⟨b, 19, none⟩ = some (.int .i64 y)) := ⟨fun d os => (h.k.below (below_regrown w d os) h.k.lt).cell 0, fun d os => (h.k.below (below_regrown w d os) h.k.lt).cell 1, fun d os => (h.k.below (below_regrown w d os) h.k.lt).cell 2, fun d os => (h.k.below (below_regrown w d os) h.k.lt).cell 3, fun d os => (h.k.below (below_regrown w d os) h.k.lt).cell 4, fun d os => (h.k.below (below_regrown w d os) h.k.lt).cell 5, fun d os => (h.k.below (below_regrown w d os) h.k.lt).cell 6, fun d os => (h.k.below (below_regrown w d os) h.k.lt).cell 7, fun d os => (h.k.below (below_regrown w d os) h.k.lt).cell 8, fun d os => (h.k.below (below_regrown w d os) h.k.lt).cell 9, fun d os => (h.k.below (below_regrown w d os) h.k.lt).cell 10, fun d os => (h.k.below (below_regrown w d os) h.k.lt).cell 11, fun d os => (h.k.below (below_regrown w d os) h.k.lt).cell 12, fun d os => (h.k.below (below_regrown w d os) h.k.lt).cell 13, fun d os => (h.k.below (below_regrown w d os) h.k.lt).cell 14, fun d os => (h.k.below (below_regrown w d os) h.k.lt).cell 15, fun d os => (h.k.below (below_regrown w d os) h.k.lt).cell 16, fun d os => (h.k.below (below_regrown w d os) h.k.lt).cell 17, fun d os => (h.k.below (below_regrown w d os) h.k.lt).cell 18, fun d os => (h.k.below (below_regrown w d os) h.k.lt).cell 19⟩
theorem ls_at {w : World} {g off n c i : Nat} {l : List L.Ls} {z : L.Ls} (h : RIn w (some ⟨g, off, none⟩) n c l) (hz : l[i]? = some z) :
  w.cell? ⟨g, off + i * 5, none⟩ = some (.int .i64 z.s) /\ w.cell? ⟨g, off + i * 5 + 1, none⟩ = some (.int .i64 z.a) /\ w.cell? ⟨g, off + i * 5 + 2, none⟩ = some (.int .i64 z.b) /\ w.cell? ⟨g, off + i * 5 + 3, none⟩ = some (.int .i64 z.f) /\ w.cell? ⟨g, off + i * 5 + 4, none⟩ = some (.int .i64 z.t) := by
 rcases h.2.2.2 with rfl | ⟨b, o, he, _, hc⟩
 ·simp at hz
 ·cases he
  exact ⟨hc i z hz 0 _ rfl, hc i z hz 1 _ rfl, hc i z hz 2 _ rfl, hc i z hz 3 _ rfl, hc i z hz 4 _ rfl⟩
theorem row_set {α : Type} [L.Rec α] {w : World} {b : Nat} {a : Option Addr} {n c : Nat} {l : List α} (h : RIn w a n c l) {j : Nat} {u v : Value} (hu : w.cell? ⟨b, j, none⟩ = some u) (hn : ∀ i, u ≠ .int .i64 i) : RIn (w.setCell ⟨b, j, none⟩ v) a n c l := by
 refine ⟨h.1, h.2.1, h.2.2.1, ?_⟩
 rcases h.2.2.2 with h0 | ⟨g, off, rfl, hlt, hc⟩
 ·exact .inl h0
 ·refine .inr ⟨g, off, rfl, by simpa using hlt, fun i x hi m q hm => ?_⟩
  have h1 := hc i x hi m q hm
  have ne : (⟨g, off + i * L.Rec.k α + m, none⟩ : Addr) ≠ ⟨b, j, none⟩ := fun e => by
   rw [e, hu] at h1
   have h2 : q ∈ L.cells x := List.mem_of_getElem? hm
   obtain ⟨p, _, hp⟩ := List.mem_map.1 h2
   exact hn p ((Option.some.inj h1).trans hp.symm)
  rw [World.cell?_setCell_other]
  ·exact h1
  ·first | exact ne | exact ne.symm
end Y
open Go.RowKit
theorem za4 {V : World} {B n g b k : Nat} {v : Value} {l : List Value} {t t' : TypeId} {cs : Array Value} (h : V.ownsRow B t k v n l) (hb : Blok V b t' cs) (ht : t' ≠ t) (hg : v.ownBlock = some g) : g ≠ b := by
 rintro rfl
 rcases h.2 with ⟨rfl, _⟩ | ⟨q, cap, cur, rfl, _, hq, _⟩
 ·cases hg
 ·obtain rfl : q = g := Option.some.inj hg
  unfold Blok at hb
  rw [hq] at hb
  simp at hb
  exact ht hb.2.symm
namespace Y
structure Own3 (w : World) (H0 b : Nat) (s : St) (A : A9) : Prop where
 k : Blok w b 84 (ws s A (.slice none 0 0) 0 0 0).toArray
 rp : w.ownsRow H0 100 3 (.slice A.ap A.np A.cp) A.np (O.flat s.ps)
 rl : w.ownsRow H0 58 5 (.slice A.al A.nl A.cl) A.nl (L.flat s.l)
 rh : w.ownsRow H0 71 3 (.slice A.ah A.nh A.ch) A.nh (L.flat s.h)
 h0 : H0 <= b
 np : s.ps.length = A.np
 nl : s.l.length = A.nl
 nh : s.h.length = A.nh
theorem Own3.i {w : World} {H0 b : Nat} {s : St} {A : A9} (h : Own3 w H0 b s A) : SIn w A s := by
 obtain ⟨a1, c1, e1, q1⟩ := zbq h.rp h.np
 obtain ⟨a2, c2, e2, q2⟩ := zcn h.rl h.nl
 obtain ⟨a3, c3, e3, q3⟩ := zdl h.rh h.nh
 simp only [Value.slice.injEq, true_and] at e1 e2 e3
 obtain ⟨e1, f1⟩ := e1
 obtain ⟨e2, f2⟩ := e2
 obtain ⟨e3, f3⟩ := e3
 exact ⟨by rw [e1, f1]; exact q1, by rw [e2, f2]; exact q2, by rw [e3, f3]; exact q3⟩
theorem Own3.below {w w' : World} {H0 b : Nat} {s : St} {A : A9} (h : Own3 w H0 b s A) (hb : Below w.heap.size w w') : Own3 w' H0 b s A :=
 ⟨h.k.below hb h.k.lt, zab h.rp hb, zab h.rl hb, zab h.rh hb, h.h0, h.np, h.nl, h.nh⟩
theorem off_of {w : World} {B k n : Nat} {t : TypeId} {a : Option Addr} {m c b : Nat} {xs : List Value} {cs : Array Value} (h : w.ownsRow B t k (.slice a m c) n xs) (hk : Blok w b 84 cs) (ht : 84 ≠ t) : Off b a := by
 intro x hx e
 subst hx
 exact za4 h hk ht (g := x.block) (by
  rcases h.2 with ⟨h0, _⟩ | ⟨q, cap, cur, h1, _⟩
  ·cases h0
  ·cases h1; rfl) e
theorem Own3.win {w : World} {H0 H b : Nat} {s : St} {A : A9} (h : Own3 w H0 b s A) (hb : b < H) (hh : H <= w.heap.size) : WIn w H b s A [] (.slice none 0 0) 0 0 :=
 ⟨h.k, h.i, off_of h.rp h.k (by decide), off_of h.rh h.k (by decide), World.ownsRow_nil _ _ _ _, hb, hh, fun g e => by cases e⟩
theorem ev1 {e : Ev} (h : e.k ≠ 0) : ∀ x ∈ [e], x.k ≠ 0 := fun x hx => by rw [List.mem_singleton] at hx; subst hx; exact h
def Up (H : Nat) (A : A9) : Prop := (∀ q, A.ap = some q -> H <= q.block) /\ (∀ q, A.al = some q -> H <= q.block) /\ ∀ q, A.ah = some q -> H <= q.block
theorem Up.mono {H H' : Nat} {A : A9} (h : Up H A) (hh : H' <= H) : Up H' A := ⟨fun q hq => Nat.le_trans hh (h.1 q hq), fun q hq => Nat.le_trans hh (h.2.1 q hq), fun q hq => Nat.le_trans hh (h.2.2 q hq)⟩
theorem Own3.up {w : World} {H0 b : Nat} {s : St} {A : A9} (h : Own3 w H0 b s A) : Up H0 A := ⟨fun q hq => (h.rp.lt q.block (by rw [hq]; rfl)).1, fun q hq => (h.rl.lt q.block (by rw [hq]; rfl)).1, fun q hq => (h.rh.lt q.block (by rw [hq]; rfl)).1⟩
theorem Own3.fits {w : World} {H0 b : Nat} {s : St} {A : A9} (h : Own3 w H0 b s A) (hm : May s) (fb : s.d.b <= 9223372036854775807) (fc : s.d.c <= 9223372036854775807) : Fits A s :=
 ⟨by rw [<- h.np]; have := hm.2.2.1.2.2.1; omega, by rw [<- h.nl]; have := hm.2.2.2.2.1; omega, by rw [<- h.nh]; have := held_len hm; omega, sm_of hm.2.2.1, fb, fc⟩
def Ends (w : World) (H0 b : Nat) (r : An) (e : Ending) (w' : World) : Prop :=
 Below H0 w w' /\ ((r.2.2.1 ≠ 0 /\ e = .panicked (pan r.2.2.1)) \/ (r.2.2.1 = 0 /\ e = .returned (.tuple #[]) /\ ∃ A' ve', Fin w' b r.1 A' r.2.1 ve' r.2.2.2.1 r.2.2.2.2 /\ Up H0 A' /\ ((∀ q, ve'.ownBlock = some q -> H0 <= q) \/ ∀ e ∈ r.2.1, e.k ≠ 0)))
theorem Ends.no {w w' : World} {H0 b : Nat} {r : An} {s : St} {er : Int} (h : r = err s er) (he : er ≠ 0) (hb : Below H0 w w') : Ends w H0 b r (.panicked (pan er)) w' := by
 subst h; exact ⟨hb, .inl ⟨he, rfl⟩⟩
theorem Ends.yes {w w' : World} {H0 b : Nat} {r : An} {s : St} {evs : List Ev} {x y : Int} (h : r = (s, evs, 0, x, y)) (hb : Below H0 w w') {A : A9} {ve : Value} (hf : Fin w' b s A evs ve x y) (hu : Up H0 A) (hv : (∀ q, ve.ownBlock = some q -> H0 <= q) \/ ∀ e ∈ evs, e.k ≠ 0) : Ends w H0 b r (.returned (.tuple #[])) w' := by
 subst h; exact ⟨hb, .inr ⟨rfl, rfl, A, ve, hf, hu, hv⟩⟩
theorem flat_set4 (t : Int) : ∀ (l : List L.Ls) (i : Nat) (z : L.Ls), l[i]? = some z -> (L.flat l).set (i * 5 + 4) (.int .i64 t) = L.flat (l.set i { z with t := t })
 | [], _, _, h => by simp at h
 | y :: l, 0, z, h => by
  obtain rfl : y = z := by simpa using h
  rfl
 | y :: l, i + 1, z, h => by
  have ih := flat_set4 t l i z (by simpa using h)
  rw [List.set_cons_succ, L.flat_cons, L.flat_cons, <- ih, List.set_append_right _ _ (by rw [L.cells_len5]; omega), L.cells_len5]
  congr 2
  omega
end Y
end Go.Proofs.YtonejangijkdmaaGreat
