import Derived.Test.YtonejangijkdmaaGreatYE
import Derived.Deep.WholeRow
import Derived.Laws.Rows
import Derived.Laws.Tables
import Derived.Defers
namespace Go.Proofs.YtonejangijkdmaaGreat
open Go.RowKit
theorem Blok.put {w : World} {g : Nat} {t : TypeId} {cs : Array Value} (h : Blok w g t cs) (cs' : Array Value) : Blok (w.setRow g cs') g t cs' := setRow_heap w g cs cs' t (0, 0) h
theorem zbr (w : World) (g : Nat) (cs' : Array Value) : w.grownBy (w.setRow g cs') (some g) := ⟨rfl, rfl, rfl, by simp, fun i hi hr => setRow_other w g i cs' (fun e => hr (by rw [e]))⟩
theorem zhu {P : Program} {ops : Array Oper} {rest : List Oper} {o : Oper} {a : Act} {w w' : World} {Q : Exit -> Act -> World -> Prop} {g : Nat} {t ty : TypeId} {x y : Operand} {old cells : Array Value} (hk : Blok w g t old) (hw : w.setRow g cells = w')
  (hgd : o.guard = none) (ho : o.op = .store ty x y) (hx : a.eval x = .pointer (some ⟨g, 0, none⟩)) (hy : a.eval y = .agg cells) (hi : (P.info? ty).map (·.size) = some cells.size) (hold : old.size = cells.size) (h1 : cells.all (·.oneCell') = true)
  (h : wpList P ops Q rest (a.put o.dst undef) w') : wpList P ops Q (o :: rest) a w := by
 subst hw; exact wpList_store_row hgd ty x y ho g cells hx hy t old hk hi hold h1 h
theorem Zw {P : Program} {ops : Array Oper} {rest : List Oper} {o : Oper} {a : Act} {w w' : World} {Q : Exit -> Act -> World -> Prop} {g : Nat} {t ty : TypeId} {old cells : Array Value} {x y : Operand} (hk : Blok w g t old) (hw : w.setRow g cells = w')
  (h : wpList P ops Q rest (a.put o.dst undef) w') (hgd : o.guard = none := by exact rfl) (ho : o.op = .store ty x y := by exact rfl) (hx : a.eval x = .pointer (some ⟨g, 0, none⟩) := by kernel_rfl) (hy : a.eval y = .agg cells := by kernel_rfl) (hi : (P.info? ty).map (·.size) = some cells.size := by kernel_rfl) (hold : old.size = cells.size := by exact rfl) (h1 : cells.all (·.oneCell') = true := by kernel_rfl) : wpList P ops Q (o :: rest) a w := zhu hk hw hgd ho hx hy hi hold h1 h
theorem zak {P : Program} {ops : Array Oper} {rest : List Oper} {o : Oper} {a : Act} {w : World} {Q : Exit -> Act -> World -> Prop} {g : Nat} {t ty : TypeId} {x : Operand} {cs : Array Value} (hk : Blok w g t cs)
  (hgd : o.guard = none) (ho : o.op = .load ty x) (hx : a.eval x = .pointer (some ⟨g, 0, none⟩)) {d : TypeDesc} (hu : P.underlying ty = some d) (hd : (match d with | .struct _ | .array _ _ => true | _ => false) = true) (hi : (P.info? ty).map (·.size) = some cs.size)
  (h : wpList P ops Q rest (a.put o.dst (.agg cs)) w) : wpList P ops Q (o :: rest) a w :=
 wpList_load_row hgd ty x ho g hx t cs (0, 0) d hk hu hd hi h
theorem box2 {w w1 w2 w3 w4 : World} {t1 t2 : TypeId} {z1 z2 c1 c2 : Array Value} (h1 : w.alloc (.cells z1 t1) = w1) (h2 : w1.alloc (.cells z2 t2) = w2) (h3 : w2.setRow w.heap.size c1 = w3) (h4 : w3.setRow w1.heap.size c2 = w4) :
  Blok w2 w.heap.size t1 z1 /\ Blok w3 w1.heap.size t2 z2 /\ Blok w4 w.heap.size t1 c1 /\ Blok w4 w1.heap.size t2 c2 /\ Below w.heap.size w w4 /\ w1.heap.size = w.heap.size + 1 := by
 have e1 : w1.heap.size = w.heap.size + 1 := by rw [<- h1]; simp
 have k1 : Blok w2 w.heap.size t1 z1 := by rw [<- h2, <- h1]; exact (Blok.new w t1 z1).alloc _
 have k2 : Blok w2 w1.heap.size t2 z2 := by rw [<- h2]; exact Blok.new w1 t2 z2
 have g1 : w2.grownBy w3 (some w.heap.size) := by rw [<- h3]; exact zbr _ _ _
 have g2 : w3.grownBy w4 (some w1.heap.size) := by rw [<- h4]; exact zbr _ _ _
 have k3 : Blok w3 w.heap.size t1 c1 := by rw [<- h3]; exact k1.put _
 have k4 : Blok w3 w1.heap.size t2 z2 := k2.grown g1 (by simp; omega)
 have hb2 : Below w.heap.size w w2 := by rw [<- h2, <- h1]; exact ((Below.refl _ w).alloc (Nat.le_refl _) _).alloc (by simp) _
 refine ⟨k1, k4, k3.grown g2 (by simp; omega), by rw [<- h4]; exact k4.put _, ?_, e1⟩
 exact (hb2.grown g1 hb2.size (fun q hq => by cases hq; exact Nat.le_refl _)).grown g2 (Nat.le_trans hb2.size g1.size) (fun q hq => by cases hq; omega)
def Y.Did (w : World) (n : Y.An) (e : Ending) (w' : World) : Prop :=
 ∃ A' a c, e = .returned (.tuple #[Y.val n.1 A', .slice a n.2.1.length c, .agg #[.int .i64 n.2.2.1, .int .i64 n.2.2.2.1, .int .i64 n.2.2.2.2]]) /\ Hid (Y.SIn w' A' n.1) /\ Hid (VIn w' a n.2.1.length c n.2.1) /\ Below w.heap.size w w' /\ Y.Up w.heap.size A' /\ ∀ q, a = some q -> w.heap.size <= q.block
namespace Y
theorem SIn.up {w w' : World} {A : A9} {s : St} {g H : Nat} (h : SIn w A s) (hu : Up H A) (hg : w.grownBy w' (some g)) (hl : g < H) : SIn w' A s :=
 ⟨off_pool h.p (fun q hq e => by have := hu.1 q hq; omega) hg, off_row h.l (fun q hq e => by have := hu.2.1 q hq; omega) hg, off_row h.h (fun q hq e => by have := hu.2.2 q hq; omega) hg⟩
theorem vin_up {α : Type} [V.Rec α] {w w' : World} {a : Option Addr} {n c g H : Nat} {l : List α} (h : VIn w a n c l) (hu : ∀ q, a = some q -> H <= q.block) (hg : w.grownBy w' (some g)) (hl : g < H) : VIn w' a n c l :=
 h.grown hg (fun q hq e => by have := hu q hq; cases e; omega)
end Y
open Go.RowKit
namespace Y
theorem off_p {w : World} {g n c : Nat} {t : TypeId} {cs : Array Value} {a : Option Addr} {l : List O.Pl} (h : QIn w a n c l) (hk : Blok w g t cs) (hz : ∀ (i : Nat) (v : Int), cs[i]? = some (Value.int .i64 v) -> v = 0) (hn : ∀ x ∈ l, x.n ≠ 0) : OffL g a l := by
 rcases h.2.2.2 with h0 | ⟨b, off, rfl, hlt, hc⟩
 ·exact .inl h0
 ·cases l with
  | nil => exact .inl rfl
  | cons x l =>
   refine .inr fun y hy e => ?_
   cases hy
   obtain rfl : b = g := e
   have h1 := (hc 0 x rfl).2.1
   rw [hk.cell] at h1
   exact hn x (by simp) (hz _ _ h1)
theorem off_h {w : World} {g n c : Nat} {t : TypeId} {cs : Array Value} {a : Option Addr} {l : List L.T3} (h : RIn w a n c l) (hk : Blok w g t cs) (hz : ∀ (i : Nat) (v : Int), cs[i]? = some (Value.int .i64 v) -> v = 0) (hn : ∀ x ∈ l, x.x ≠ 0) : OffL g a l := by
 rcases h.2.2.2 with h0 | ⟨b, off, rfl, hlt, hc⟩
 ·exact .inl h0
 ·cases l with
  | nil => exact .inl rfl
  | cons x l =>
   refine .inr fun y hy e => ?_
   cases hy
   obtain rfl : b = g := e
   have h1 := hc 0 x rfl 2 (.int .i64 x.x) rfl
   rw [hk.cell] at h1
   exact hn x (by simp) (hz _ _ h1)
theorem off_e {w : World} {g n c : Nat} {t : TypeId} {cs : Array Value} {a : Option Addr} {l : List Ev} (h : VIn w a n c l) (hk : Blok w g t cs) (hz : ∀ (i : Nat) (v : Int), cs[i]? = some (Value.int .i64 v) -> v = 0) (hn : ∀ x ∈ l, x.k ≠ 0) : OffL g a l := by
 rcases h.2.2.2 with h0 | ⟨b, off, rfl, hlt, hc⟩
 ·exact .inl h0
 ·cases l with
  | nil => exact .inl rfl
  | cons x l =>
   refine .inr fun y hy e => ?_
   cases hy
   obtain rfl : b = g := e
   have h1 := hc 0 x rfl 0 (.int .i64 x.k) rfl
   rw [hk.cell] at h1
   exact hn x (by simp) (hz _ _ h1)
theorem vin_off {w w' : World} {a : Option Addr} {n c g : Nat} {l : List Ev} (h : VIn w a n c l) (hg : w.grownBy w' (some g)) (ho : OffL g a l) : VIn w' a n c l := by
 rcases ho with h0 | ho
 ·exact ⟨h.1, h.2.1, h.2.2.1, .inl h0⟩
 ·exact h.grown hg (fun x hx e => ho x hx (Option.some.inj e))
theorem z16 : ∀ (i : Nat) (v : Int), (#[.int .i64 0, .int .i64 0, .int .i64 0, .int .i64 0, .int .i64 0, .int .i64 0, .int .i64 0, .int .i64 0, .int .i64 0, .int .i64 0, .int .i64 0, .bool false, .int .i64 0, .slice none 0 0, .slice none 0 0, .slice none 0 0] : Array Value)[i]? = some (.int .i64 v) -> v = 0 := fun i v h => by
 match i, h with
  | 0, h => first | (simp at h; omega) | simp at h
  | 1, h => first | (simp at h; omega) | simp at h
  | 2, h => first | (simp at h; omega) | simp at h
  | 3, h => first | (simp at h; omega) | simp at h
  | 4, h => first | (simp at h; omega) | simp at h
  | 5, h => first | (simp at h; omega) | simp at h
  | 6, h => first | (simp at h; omega) | simp at h
  | 7, h => first | (simp at h; omega) | simp at h
  | 8, h => first | (simp at h; omega) | simp at h
  | 9, h => first | (simp at h; omega) | simp at h
  | 10, h => first | (simp at h; omega) | simp at h
  | 11, h => first | (simp at h; omega) | simp at h
  | 12, h => first | (simp at h; omega) | simp at h
  | 13, h => first | (simp at h; omega) | simp at h
  | 14, h => first | (simp at h; omega) | simp at h
  | 15, h => first | (simp at h; omega) | simp at h
  | _ + 16, h => simp at h
theorem z3 : ∀ (i : Nat) (v : Int), (#[.int .i64 0, .int .i64 0, .int .i64 0] : Array Value)[i]? = some (.int .i64 v) -> v = 0 := fun i v h => by
 match i, h with
  | 0, h => first | (simp at h; omega) | simp at h
  | 1, h => first | (simp at h; omega) | simp at h
  | 2, h => first | (simp at h; omega) | simp at h
  | _ + 3, h => simp at h
theorem z1 : ∀ (i : Nat) (v : Int), (#[.slice none 0 0] : Array Value)[i]? = some (.int .i64 v) -> v = 0 := fun i v h => by
 match i, h with
  | 0, h => first | (simp at h; omega) | simp at h
  | _ + 1, h => simp at h
theorem rows_kept {w1 w2 w3 w4 : World} {A : A9} {s : St} {evs : List Ev} {ea : Option Addr} {ec tb eb ab H : Nat} {t1 t2 t3 : TypeId} (hi : SIn w1 A s) (hv : VIn w1 ea evs.length ec evs) (k1 : Blok w1 tb t1 #[.int .i64 0, .int .i64 0, .int .i64 0, .int .i64 0, .int .i64 0, .int .i64 0, .int .i64 0, .int .i64 0, .int .i64 0, .int .i64 0, .int .i64 0, .bool false, .int .i64 0, .slice none 0 0, .slice none 0 0, .slice none 0 0]) (k2 : Blok w1 eb t2 #[.slice none 0 0]) (k3 : Blok w1 ab t3 #[.int .i64 0, .int .i64 0, .int .i64 0])
  (g1 : w1.grownBy w2 (some tb)) (g2 : w2.grownBy w3 (some eb)) (g3 : w3.grownBy w4 (some ab)) (hm : May s) (hu : ∀ q, A.al = some q -> H <= q.block) (ht : tb < H) (he : eb < H) (ha : ab < H) (hev : (∀ q, (Value.slice ea evs.length ec).ownBlock = some q -> H <= q) \/ ∀ e ∈ evs, e.k ≠ 0) :
  SIn w4 A s /\ VIn w4 ea evs.length ec evs := by
 have hp : ∀ x ∈ s.ps, x.n ≠ 0 := fun x hx => by have := O.fits_iff.1 (hm.2.2.1.2.2.2.1 x hx); omega
 have hh : ∀ x ∈ s.h, x.x ≠ 0 := fun x hx => by have := (hm.2.2.2.2.2.2.2.2 x hx).2.1; have := hm.2.2.2.1; omega
 have hl : ∀ g, g < H -> OffL g A.al s.l := fun g hg => .inr fun x hx e => by have := hu x hx; omega
 have he' : ∀ {g : Nat} {t : TypeId} {cs : Array Value}, Blok w1 g t cs -> (∀ (i : Nat) (v : Int), cs[i]? = some (Value.int .i64 v) -> v = 0) -> g < H -> OffL g ea evs := fun hk hz hg => by
  rcases hev with h1 | h1
  ·exact .inr fun x hx e => by subst hx; have := h1 x.block rfl; omega
  ·exact off_e hv hk hz h1
 have q1 := off_p hi.p k1 z16 hp
 have q2 := off_p hi.p k2 z1 hp
 have q3 := off_p hi.p k3 z3 hp
 have r1 := off_h hi.h k1 z16 hh
 have r2 := off_h hi.h k2 z1 hh
 have r3 := off_h hi.h k3 z3 hh
 refine ⟨⟨pool_off (pool_off (pool_off hi.p g1 ?_) g2 ?_) g3 ?_, row_off (row_off (row_off hi.l g1 ?_) g2 ?_) g3 ?_, row_off (row_off (row_off hi.h g1 ?_) g2 ?_) g3 ?_⟩, vin_off (vin_off (vin_off hv g1 (he' k1 z16 ht)) g2 (he' k2 z1 he)) g3 (he' k3 z3 ha)⟩
 all_goals (intro g e; cases e; first | assumption | exact hl _ (by assumption))
theorem Ends.pan' {w w' : World} {H0 b : Nat} {r : An} {e : Ending} (h : Ends w H0 b r e w') (h0 : r.2.2.1 ≠ 0) : e = .panicked (pan r.2.2.1) /\ Below H0 w w' := by
 rcases h.2 with ⟨_, h1⟩ | ⟨h1, _⟩
 ·exact ⟨h1, h.1⟩
 ·exact absurd h1 h0
theorem Ends.ret' {w w' : World} {H0 b : Nat} {r : An} {e : Ending} (h : Ends w H0 b r e w') (h0 : r.2.2.1 = 0) : e = .returned (.tuple #[]) /\ Below H0 w w' /\ ∃ A' ve', Fin w' b r.1 A' r.2.1 ve' r.2.2.2.1 r.2.2.2.2 /\ Up H0 A' /\ ((∀ q, ve'.ownBlock = some q -> H0 <= q) \/ ∀ e ∈ r.2.1, e.k ≠ 0) := by
 rcases h.2 with ⟨h1, _⟩ | ⟨_, h1, h2⟩
 ·exact absurd h0 h1
 ·exact ⟨h1, h.1, h2⟩
end Y
theorem zck {P : Program} {fn : Func} {t t' : Array Value} {R : Ending -> World -> Prop} (hr : results fn t = results fn t') : ∀ (ds : List Deferred) (u : FrameMode) (w : World), Leaves P fn t R ds u w -> Leaves P fn t' R ds u w
 | [], .returning, _, h => by obtain ⟨v, h1, h2⟩ := h; exact ⟨v, by rw [<- hr]; exact h1, h2⟩
 | [], .panicking _, _, h => h
 | [], .run, _, h => h
 | _ :: ds, _, _, ⟨hu, fv, cap, f, args, h1, h2, h3⟩ => ⟨hu, fv, cap, f, args, h1, h2, h3.mono (fun e _ _ h => by cases e with
  | returned _ => exact zck hr ds _ _ h
  | panicked _ => exact zck hr ds _ _ h
  | outgrown => exact h)⟩
theorem zbv {R : Ending -> World -> Prop} {i : Nat} {v : Value} {c : List PanicEntry} {a : Act} {w : World} (hi : 7 <= i) (h : bodyPostD Tryz.prog Tryz.f14 R (.panic c) (a.put (some i) v) w) : bodyPostD Tryz.prog Tryz.f14 R (.panic c) a w := by
 refine zck ?_ _ _ _ h
 simp [results, Tryz.results14, Act.put, Array.getElem?_setIfInBounds, show ¬ i = 4 by omega, show ¬ i = 5 by omega, show ¬ i = 6 by omega]
end Go.Proofs.YtonejangijkdmaaGreat
