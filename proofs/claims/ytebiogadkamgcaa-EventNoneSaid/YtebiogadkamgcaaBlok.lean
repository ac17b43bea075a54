/-
  A block of memory that is known whole ('Holds1 w g t cs': block g is just the cells cs), and what keeps it; a row of such a block reads as a list of integers.
-/
import Derived.Test.YtebiogadkamgcaaKit
import Derived.Deep.OwnRows
import Derived.Laws.Rows
import Derived.RangeFuncBox
namespace Go.Proofs.Ytebiogadkamgcaa
open Go.RowKit

/-- Block g is the cells cs of element type t, and no more. -/
def Blok (w : World) (g : Nat) (t : TypeId) (cs : Array Value) : Prop := w.heap[g]? = some (.cells cs t (0, 0))

theorem Blok.lt {w : World} {g : Nat} {t : TypeId} {cs : Array Value} (h : Blok w g t cs) : g < w.heap.size := (Array.getElem?_eq_some_iff.1 h).1
theorem Blok.cell {w : World} {g : Nat} {t : TypeId} {cs : Array Value} (h : Blok w g t cs) (i : Nat) : w.cell? ⟨g, i, none⟩ = cs[i]? := cell_of_row w g i cs t (0, 0) h
theorem Blok.frozen {w : World} {g : Nat} {t : TypeId} {cs : Array Value} (h : Blok w g t cs) (i : Nat) : w.frozen? ⟨g, i, none⟩ = false := by
  have h' : w.heap[g]? = some (.cells cs t (0, 0)) := h
  simp [World.frozen?, h']
theorem Blok.new (w : World) (t : TypeId) (cs : Array Value) : Blok (w.alloc (.cells cs t)) w.heap.size t cs := World.alloc_heap_new w _
theorem Blok.alloc {w : World} {g : Nat} {t : TypeId} {cs : Array Value} (h : Blok w g t cs) (o : Obj) : Blok (w.alloc o) g t cs := (((Below.refl w.heap.size w).alloc (Nat.le_refl _) o).block g h.lt).trans h
theorem Blok.far {w : World} {g : Nat} {t : TypeId} {cs : Array Value} (h : Blok w g t cs) {p : Addr} (hp : g ≠ p.block) (u : Value) : Blok (w.setCell p u) g t cs := by
  have h' : w.heap[g]? = some (.cells cs t (0, 0)) := h
  show (w.setCell p u).heap[g]? = _
  simp [World.setCell, Array.getElem?_modify, h', Ne.symm hp]
theorem Blok.set {w : World} {g : Nat} {t : TypeId} {cs : Array Value} (h : Blok w g t cs) (i : Nat) (u : Value) : Blok (w.setCell ⟨g, i, none⟩ u) g t (cs.setIfInBounds i u) := by
  have h' : w.heap[g]? = some (.cells cs t (0, 0)) := h
  show (w.setCell ⟨g, i, none⟩ u).heap[g]? = _
  simp [World.setCell, Array.getElem?_modify, h']
theorem Blok.below {B : Nat} {w w' : World} {g : Nat} {t : TypeId} {cs : Array Value} (h : Blok w g t cs) (hb : Below B w w') (hg : g < B) : Blok w' g t cs := (hb.block g hg).trans h
theorem Blok.grown {w w' : World} {g : Nat} {t : TypeId} {cs : Array Value} {row : Option Nat} (h : Blok w g t cs) (hb : w.grownBy w' row) (hg : some g ≠ row) : Blok w' g t cs := (hb.block g h.lt hg).trans h
theorem Blok.drew {w : World} {g : Nat} {t : TypeId} {cs : Array Value} (h : Blok w g t cs) : Blok w.drew g t cs := h
theorem Blok.drewN {w : World} {g : Nat} {t : TypeId} {cs : Array Value} (h : Blok w g t cs) (n : Nat) : Blok (w.drewN n) g t cs := h
theorem Blok.row {k : IntKind} {w : World} {g cap : Nat} {t : TypeId} {L : List Int} (h : Blok w g t (L.map (Value.int k)).toArray) (hw : ∀ n ∈ L, (Lit.int k n).wf = true) (hc : L.length ≤ cap) (hm : cap ≤ maxLen) : RowIn k w (some ⟨g, 0, none⟩) cap L := by
  refine ⟨⟨hc, hm⟩, hw, .inr ⟨g, 0, rfl, h.lt, fun i hi => ?_⟩⟩
  rw [Nat.zero_add, h.cell i]
  simp [hi]
theorem Blok.own {w : World} {g cap n : Nat} {t : TypeId} {xs : List Value} (h : Blok w g t xs.toArray) {B : Nat} (hB : B ≤ g) (hn : xs.length = n) (hc : n ≤ cap) (hm : cap ≤ maxLen) (hx : xs.length = cap) : w.ownsRow B t 1 (.slice (some ⟨g, 0, none⟩) n cap) n xs := by
  refine ⟨by omega, .inr ⟨g, cap, xs.toArray, rfl, hB, h, by omega, hm, by simp; omega, ?_⟩⟩
  simp [List.take_of_length_le (show xs.length ≤ n by omega)]
theorem made_ints (k : IntKind) (n : Nat) : madeCells #[Value.int k 0] n = ((List.replicate n (0 : Int)).map (Value.int k)).toArray := by
  apply Array.ext'
  rw [toList_madeCells_one]
  simp

/-- A list that is being filled: what is known of its first places, and noughts behind. -/
def filled (xs : List Int) (n : Nat) : List Int := xs ++ List.replicate (n - xs.length) 0
theorem filled_nil (n : Nat) : filled [] n = List.replicate n 0 := by simp [filled]
theorem filled_all {xs : List Int} {n : Nat} (h : n ≤ xs.length) : filled xs n = xs := by simp [filled, show n - xs.length = 0 by omega]
theorem filled_len {xs : List Int} {n : Nat} (h : xs.length ≤ n) : (filled xs n).length = n := by simp [filled]; omega
theorem filled_set {xs : List Int} {n : Nat} (h : xs.length < n) (k : IntKind) (x : Int) : ((filled xs n).map (Value.int k)).toArray.setIfInBounds xs.length (.int k x) = ((filled (xs ++ [x]) n).map (Value.int k)).toArray := by
  apply Array.ext'
  obtain ⟨m, hm⟩ : ∃ m, n - xs.length = m + 1 := ⟨n - xs.length - 1, by omega⟩
  have hm' : n - (xs.length + 1) = m := by omega
  simp [filled, hm, hm', List.replicate_succ]
theorem filled_next {xs : List Int} {n j : Nat} (h : xs.length = j) (hj : j < n) (k : IntKind) : ((filled xs n).map (Value.int k)).toArray[j]? = some (.int k 0) := by
  subst h
  obtain ⟨m, hm⟩ : ∃ m, n - xs.length = m + 1 := ⟨n - xs.length - 1, by omega⟩
  simp [filled, hm, List.replicate_succ]

theorem ret_int {k : IntKind} {a b : Int} (h : a = b) : Ending.returned (.int k a) = .returned (.int k b) := by rw [h]

theorem row_at {k : IntKind} {w : World} {a : Option Addr} {cap i : Nat} {L : List Int} (h : RowIn k w a cap L) (hi : i < L.length) : ∃ b off, a = some ⟨b, off, none⟩ ∧ b < w.heap.size ∧ w.cell? ⟨b, off + i, none⟩ = some (.int k (L.getD i 0)) := by
  rcases h.2.2 with rfl | ⟨b, off, rfl, hb, hc⟩
  · simp at hi
  · exact ⟨b, off, rfl, hb, hc i hi⟩
theorem take_snoc {L : List Int} {k : Nat} (hk : k < L.length) : L.take (k + 1) = L.take k ++ [L.getD k 0] := by
  rw [List.take_succ_eq_append_getElem hk]; simp [hk]

theorem RowIn.take {k : IntKind} {w : World} {a : Option Addr} {cap : Nat} {L : List Int} (h : RowIn k w a cap L) (j : Nat) : RowIn k w a cap (L.take j) := by
  refine ⟨⟨?_, h.1.2⟩, fun n hn => h.2.1 n (List.mem_of_mem_take hn), ?_⟩
  · have := h.1.1; simp; omega
  · rcases h.2.2 with rfl | ⟨b, off, rfl, hb, hc⟩
    · exact .inl (by simp)
    · refine .inr ⟨b, off, rfl, hb, fun i hi => ?_⟩
      simp at hi
      rw [hc i (by omega)]
      simp [show i < L.length by omega, show i < j by omega]
theorem Zn (w : World) (t : TypeId) (cs : Array Value) : ∃ w1, w.alloc (.cells cs t) = w1 ∧ Below w.heap.size w w1 ∧ Blok w1 w.heap.size t cs := ⟨_, rfl, (Below.refl _ w).alloc (Nat.le_refl _) _, Blok.new w _ _⟩
theorem Zh {p : Prop} (h : p) : Hid p := Lib.hid h
theorem Zk {w w' : World} {g : Nat} {t : TypeId} {cs : Array Value} (h : Hid (Blok w g t cs)) (hb : Below w.heap.size w w') : Hid (Blok w' g t cs) := Lib.hid (h.out.below hb h.out.lt)
theorem Zt {w w1 w2 : World} (h : Hid (Below w.heap.size w w1)) (hb : Below w1.heap.size w1 w2) : Hid (Below w.heap.size w w2) := Lib.hid (h.out.trans (hb.mono h.out.size))
theorem Zr {w w1 w2 : World} (h : Below w.heap.size w w1) (hb : Below w1.heap.size w1 w2) : Below w.heap.size w w2 := h.trans (hb.mono h.size)
theorem Zl {P : Program} {md : Region.Mode} {ops : Array Oper} {Q : Exit → Act → World → Prop} {S : World → Prop} (i : Nat) (v : Value) {oi : Oper} {fuel : Nat} {listed : Array Bool} {a : Act} {w : World} (hi : ops[i]? = some oi) (hy : ∀ w, S w → (execOp a.eval oi).run P w = .ok (.value v) w) (hS : S w)
    (h : wpAnyH P md ops Q S fuel (listed.setIfInBounds i true) (a.put oi.dst v) w) (hs : Region.noSelect ops = true := by kernel_rfl) (hf : Region.free md ops listed i = true := by kernel_rfl)
    (hr : (Region.ready md ops listed).contains i = true := by kernel_rfl) (hQ : ∀ c a w, Q (.panic c) (a.put oi.dst v) w → Q (.panic c) a w := by exact fun _ _ _ h => h)
    (hw : Region.wanted oi (yielded ops a.tmps) = true := by kernel_rfl) : wpAnyH P md ops Q S (fuel + 1) listed a w := wpAnyH_take hi hs hf hr hQ (.inl ⟨hw, hy⟩) hS h
theorem Zq {P : Program} {md : Region.Mode} {ops : Array Oper} {Q : Exit → Act → World → Prop} {S : World → Prop} (i b o : Nat) {oi : Oper} {fuel : Nat} {listed : Array Bool} {a : Act} {w : World} (hS : S w)
    (h : wpAnyH P md ops Q S fuel (listed.setIfInBounds i true) (a.put oi.dst (.pointer (some ⟨b, o, none⟩))) w) (hi : ops[i]? = some oi := by exact rfl) (hs : Region.noSelect ops = true := by kernel_rfl) (hf : Region.free md ops listed i = true := by kernel_rfl)
    (hr : (Region.ready md ops listed).contains i = true := by kernel_rfl) (hQ : ∀ c a w, Q (.panic c) (a.put oi.dst (.pointer (some ⟨b, o, none⟩))) w → Q (.panic c) a w := by exact fun _ _ _ h => h)
    (hy : YieldsIf P ops S oi (.pointer (some ⟨b, o, none⟩)) a := by exact .inl ⟨by kernel_rfl, fun w9 hS => by kernel_rfl⟩) : wpAnyH P md ops Q S (fuel + 1) listed a w := wpAnyH_take hi hs hf hr hQ hy hS h
theorem Zu {v0 : Value} {p : Prop} {G : Value → Prop} (h : p) (k : p → G v0) : ∃ v, Ending.returned v0 = Ending.returned v ∧ p ∧ G v := ⟨v0, rfl, h, k h⟩
theorem Zd {P : Program} {ops : Array Oper} {Q : Exit → Act → World → Prop} {id : Nat} {a : Act} {w : World} (S : World → Prop) (hS : S (World.drew w)) (h : S (World.drew w) → wpAnyH P .any ops Q S ops.size (Array.replicate ops.size false) a (World.drew w)) (hm : P.follows .mixedOrders = true := by kernel_rfl) : (Code.region id ops true).wp P Q a w := wp_region_held hm (h hS)
theorem Zv {w : World} {g : Nat} {t : TypeId} {cs : Array Value} (h : Blok w g t cs) (i : Nat) (v : Value) (e : cs[i]? = some v := by exact rfl) : w.cell? ⟨g, i, none⟩ = some v := (h.cell i).trans e
end Go.Proofs.Ytebiogadkamgcaa
