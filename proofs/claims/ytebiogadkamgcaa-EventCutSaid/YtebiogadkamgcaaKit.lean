/-
  What a slice reads as ('RowIn'), what it owns ('ownsRow'), what lies below a call ('Below'): the laws that the walks of every layer use; append of whatever slice; the string of bytes.
-/
import Derived.Test.YtebiogadkamgcaaProg
import Derived.WalkKit
import Derived.OwnWalk
import Derived.LoopTactic
import Derived.WalkSpells
import Derived.Maps.AppendAt
import Derived.Lib.Hide
import Derived.Outline
import Derived.WalkMore
import Derived.OpenShut
import Derived.Deep.LoopGhost
import Derived.BigQuiet
import Derived.Deep.QuietTactic
import Derived.Laws.AppendOwnNone
import Derived.Laws.BytesString
import Derived.RangeFuncRecord
import Derived.OrdersHeld
namespace Go.Proofs.Ytebiogadkamgcaa
open Go.RowKit

/-- A free operation of a drawn region, its side conditions reckoned ('tk': what it yields; 'tko': it is left out). -/
theorem tk {P : Program} {md : Region.Mode} {ops : Array Oper} {Q : Exit → Act → World → Prop} {S : World → Prop} (i : Nat) (v : Value) {oi : Oper} {fuel : Nat} {listed : Array Bool} {a : Act} {w : World} (hS : S w)
    (h : wpAnyH P md ops Q S fuel (listed.setIfInBounds i true) (a.put oi.dst v) w) (hi : ops[i]? = some oi := by exact rfl) (hs : Region.noSelect ops = true := by kernel_rfl) (hf : Region.free md ops listed i = true := by kernel_rfl)
    (hr : (Region.ready md ops listed).contains i = true := by kernel_rfl) (hQ : ∀ c a w, Q (.panic c) (a.put oi.dst v) w → Q (.panic c) a w := by exact fun _ _ _ h => h)
    (hy : YieldsIf P ops S oi v a := by exact .inl ⟨by kernel_rfl, fun w9 hS => by kernel_rfl⟩) : wpAnyH P md ops Q S (fuel + 1) listed a w := wpAnyH_take hi hs hf hr hQ hy hS h
theorem tko {P : Program} {md : Region.Mode} {ops : Array Oper} {Q : Exit → Act → World → Prop} {S : World → Prop} (i : Nat) {oi : Oper} {fuel : Nat} {listed : Array Bool} {a : Act} {w : World} (hS : S w)
    (h : wpAnyH P md ops Q S fuel (listed.setIfInBounds i true) (a.put oi.dst undef) w) (hi : ops[i]? = some oi := by exact rfl) (hs : Region.noSelect ops = true := by kernel_rfl) (hf : Region.free md ops listed i = true := by kernel_rfl)
    (hr : (Region.ready md ops listed).contains i = true := by kernel_rfl) (hQ : ∀ c a w, Q (.panic c) (a.put oi.dst undef) w → Q (.panic c) a w := by exact fun _ _ _ h => h)
    (hy : YieldsIf P ops S oi undef a := by exact .inr ⟨by kernel_rfl, rfl⟩) : wpAnyH P md ops Q S (fuel + 1) listed a w := wpAnyH_take hi hs hf hr hQ hy hS h

theorem info5 : (Try.prog.info? 5).map (fun i => (i.zero, i.size, i.bytes)) = some (some (.int .u8 0), 1, 1) := by kernel_rfl
theorem info3 : (Try.prog.info? 3).map (fun i => (i.zero, i.size, i.bytes)) = some (some (.int .i64 0), 1, 8) := by kernel_rfl

/-- An append to a slice of the call's own leaves what lay there before the call. -/
theorem below_appended {w wr w1 : World} {B e size n : Nat} {v : Value} {xs : List Value} {tmp : Obj} (hown : wr.ownsRow B e size v n xs) (hBw : B ≤ wr.heap.size) (hB : Below B w wr) (hgrow : (wr.alloc tmp).grownBy w1 v.ownBlock) : Below B w w1 :=
  (hB.alloc hBw tmp).grown hgrow (by simp; omega) fun k ek => (hown.lt k ek).1
theorem below_appended0 {w wr w1 : World} {B e size n : Nat} {v : Value} {xs : List Value} (hown : wr.ownsRow B e size v n xs) (hBw : B ≤ wr.heap.size) (hB : Below B w wr) (hgrow : wr.grownBy w1 v.ownBlock) : Below B w w1 :=
  hB.grown hgrow hBw fun k ek => (hown.lt k ek).1

/-- What the walk is told of a slice of integers: it is nil; or it leads to a row of 'cap' cells, the numbers 'zs' (the first 'len' are its elements, the rest its spare room), each fitting its kind. -/
def IsRow (k : IntKind) (w : World) (a : Option Addr) (len cap : Nat) (zs : List Int) : Prop :=
  (a = none ∧ len = 0 ∧ cap = 0 ∧ zs = []) ∨
  ∃ x, a = some x ∧ len ≤ cap ∧ cap ≤ maxLen ∧ zs.length = cap ∧ (∀ i, i < zs.length → w.cell? (x.add i) = some (.int k (zs.getD i 0))) ∧ ∀ n ∈ zs, (Lit.int k n).wf = true

theorem take_drop_cons {zs : List Int} {len k : Nat} (hk : k < len) (hz : len ≤ zs.length) : (zs.take len).drop k = zs.getD k 0 :: (zs.take len).drop (k + 1) := by
  have h1 : k < (zs.take len).length := by simp; omega
  rw [List.drop_eq_getElem_cons h1]
  congr 1
  have h2 : k < zs.length := by omega
  simp [List.getElem_take, h2]

/-- What a slice reads as: L, in 'cap' cells of room (its length is L's). -/
def RowIn (k : IntKind) (w : World) (a : Option Addr) (cap : Nat) (L : List Int) : Prop :=
  (L.length ≤ cap ∧ cap ≤ maxLen) ∧ (∀ n ∈ L, (Lit.int k n).wf = true) ∧
  (L = [] ∨ ∃ b off, a = some ⟨b, off, none⟩ ∧ b < w.heap.size ∧ ∀ i, i < L.length → w.cell? ⟨b, off + i, none⟩ = some (.int k (L.getD i 0)))

theorem IsRow.rowIn {k : IntKind} {w : World} {a : Option Addr} {len cap : Nat} {zs : List Int} (h : IsRow k w a len cap zs) : RowIn k w a cap (zs.take len) ∧ (zs.take len).length = len := by
  rcases h with ⟨rfl, rfl, rfl, rfl⟩ | ⟨x, rfl, hl, hm, hz, hc, hw⟩
  · exact ⟨⟨⟨by simp, by simp [maxLen]⟩, by simp, .inl rfl⟩, rfl⟩
  · have hlen : (zs.take len).length = len := by simp; omega
    refine ⟨⟨⟨by omega, hm⟩, fun n hn => hw n (List.mem_of_mem_take hn), ?_⟩, hlen⟩
    by_cases h0 : len = 0
    · exact .inl (by simp [h0])
    · obtain ⟨b, off, rfl, hc'⟩ := ints_at hc (by omega)
      refine .inr ⟨b, off, rfl, World.block_lt_of_cell? (a := ⟨b, off + 0, none⟩) _ (hc' 0 (by omega)), fun i hi => ?_⟩
      rw [hc' i (by omega)]
      congr 2
      simp [show i < len by omega]

theorem RowIn.below {k : IntKind} {w w' : World} {a : Option Addr} {cap : Nat} {L : List Int} (h : RowIn k w a cap L) (hb : Below w.heap.size w w') : RowIn k w' a cap L := by
  refine ⟨h.1, h.2.1, ?_⟩
  rcases h.2.2 with h0 | ⟨b, off, rfl, hlt, hc⟩
  · exact .inl h0
  · exact .inr ⟨b, off, rfl, Nat.lt_of_lt_of_le hlt hb.size, fun i hi => (hb.cell (p := ⟨b, off + i, none⟩) hlt).trans (hc i hi)⟩

theorem RowIn.belowN {k : IntKind} {B : Nat} {w w' : World} {a : Option Addr} {cap : Nat} {L : List Int} (h : RowIn k w a cap L) (hB : w.heap.size ≤ B) (hb : Below B w w') : RowIn k w' a cap L := h.below (hb.mono hB)

theorem ownsRow_below {w w' : World} {B e sz n : Nat} {v : Value} {xs : List Value} (h : w.ownsRow B e sz v n xs) (hb : Below w.heap.size w w') : w'.ownsRow B e sz v n xs := by
  refine ⟨h.1, ?_⟩
  rcases h.2 with hn | ⟨g, cap, cur, rfl, hb', hgg, rest⟩
  · exact .inl hn
  · exact .inr ⟨g, cap, cur, rfl, hb', (hb.block g (Array.getElem?_eq_some_iff.1 hgg).1).trans hgg, rest⟩

theorem ownsRow_rowIn {k : IntKind} {w : World} {B e n : Nat} {v : Value} {L : List Int} (h : w.ownsRow B e 1 v n (L.map (Value.int k))) (hw : ∀ n ∈ L, (Lit.int k n).wf = true) : ∃ a cap, v = .slice a n cap ∧ n = L.length ∧ RowIn k w a cap L := by
  have hn : L.length = n := by simpa using h.1
  rcases h.2 with ⟨rfl, rfl⟩ | ⟨g, cap, cur, rfl, _, hgg, hle, hm, hsz, htake⟩
  · have : L = [] := List.eq_nil_of_length_eq_zero hn
    subst this
    exact ⟨none, 0, rfl, rfl, ⟨by simp, by simp [maxLen]⟩, by simp, .inl rfl⟩
  · refine ⟨_, cap, rfl, hn.symm, ⟨by omega, hm⟩, hw, .inr ⟨g, 0, rfl, (Array.getElem?_eq_some_iff.1 hgg).1, fun i hi => ?_⟩⟩
    have hc := h.cells (g := g) rfl i (.int k (L.getD i 0)) (by simp [hi])
    rw [WideShapes.add_plain] at hc
    exact hc

theorem ownsRow_some {w : World} {B e n : Nat} {v : Value} {xs : List Value} (h : w.ownsRow B e 1 v n xs) (hn : 0 < n) : ∃ g cap, v = .slice (some ⟨g, 0, none⟩) n cap := by
  rcases h.2 with ⟨_, h0⟩ | ⟨g, cap, _, rfl, _⟩
  · omega
  · exact ⟨g, cap, rfl⟩
theorem ints_one (k : IntKind) (L : List Int) : ∀ u ∈ L.map (Value.int k), u.oneCell' = true := by
  intro u hu
  obtain ⟨n, _, rfl⟩ := List.mem_map.1 hu
  rfl

theorem ownsRow_form {w : World} {B e n : Nat} {v : Value} {xs : List Value} (h : w.ownsRow B e 1 v n xs) : ∃ a cap, v = .slice a n cap := by
  rcases h.2 with ⟨rfl, rfl⟩ | ⟨g, cap, _, rfl, _⟩
  · exact ⟨_, _, rfl⟩
  · exact ⟨_, _, rfl⟩

theorem below_drewN (B : Nat) (w : World) : ∀ n, Below B w (w.drewN n)
  | 0 => Below.refl _ _
  | n + 1 => by
    have := below_drewN B w n
    exact ⟨this.os, this.tape, this.output, this.size, this.block⟩

theorem ownsRow_base {w : World} {B B' e sz n : Nat} {v : Value} {xs : List Value} (h : w.ownsRow B e sz v n xs) (hB : B' ≤ B) : w.ownsRow B' e sz v n xs := by
  refine ⟨h.1, ?_⟩
  rcases h.2 with hn | ⟨g, cap, cur, rfl, hb, rest⟩
  · exact .inl hn
  · exact .inr ⟨g, cap, cur, rfl, Nat.le_trans hB hb, rest⟩

theorem ownsRow_take {w : World} {B e n m : Nat} {g cap : Nat} {xs ys : List Value} (h : w.ownsRow B e 1 (.slice (some ⟨g, 0, none⟩) (n + m) cap) (n + m) (xs ++ ys)) (hx : xs.length = n) : w.ownsRow B e 1 (.slice (some ⟨g, 0, none⟩) n cap) n xs := by
  refine ⟨by omega, ?_⟩
  rcases h.2 with ⟨h0, _⟩ | ⟨g', cap', cur, he, hb, hg, hle, hm, hs, ht⟩
  · cases h0
  · simp at he
    obtain ⟨rfl, rfl⟩ := he
    refine .inr ⟨g, cap, cur, rfl, hb, hg, by omega, hm, hs, ?_⟩
    have t1 : (cur.toList.take ((n + m) * 1)).take n = (xs ++ ys).take n := by rw [ht]
    rw [List.take_take, Nat.min_eq_left (by omega)] at t1
    rw [Nat.mul_one, t1, List.take_append_of_le_length (by omega), List.take_of_length_le (l := xs) (by omega)]

/-- append to a slice of the call's own: as 'wpList_append_own'; and what the old slice owned it owns still. -/
theorem wpList_append_keep {P : Program} (w : World) {ops : Array Oper} {rest : List Oper} {o : Oper} {a : Act} {Q : Exit → Act → World → Prop} (hgd : o.guard = none) (s x : Operand) (t : TypeId)
    (ho : o.op = .call { callee := .builtin .append, args := #[s, x], argTypes := #[t, t] })
    (base : Nat) (e : TypeId) (i : TypeInfo) (z : Value) (bytes : Nat) (ht : P.underlying t = some (.slice e)) (hi : P.info? e = some i) (hz : i.zero = some z)
    (hsize : i.size = 1) (hby : i.bytes = bytes) (hzs : z.cells.size = 1)
    (g n cap : Nat) (xs : List Value) (hs : a.eval s = .slice (some ⟨g, 0, none⟩) n cap) (hown : w.ownsRow base e 1 (.slice (some ⟨g, 0, none⟩) n cap) n xs)
    (ad : Addr) (m c : Nat) (news : List Value) (hx : a.eval x = .slice (some ad) m c) (hl : news.length = m * 1) (hnews : ∀ j u, news[j]? = some u → w.cell? (ad.add j) = some u) (h1 : ∀ u ∈ news, u.oneCell' = true)
    (h63 : n + m ≤ maxLen) (hbytes : (n + m) * bytes ≤ 140737488355328) (hbase : base ≤ w.heap.size)
    (h : ∀ v' w', w'.ownsRow base e 1 v' (n + m) (xs ++ news) → w'.ownsRow base e 1 (.slice (some ⟨g, 0, none⟩) n cap) n xs → w.grownBy w' (some g) → wpList P ops Q rest (a.put o.dst v') w') : wpList P ops Q (o :: rest) a w := by
  by_cases hc : n + m ≤ cap
  · exact wpList_append_fits w hgd s x t ho base e i 1 ht hi hsize g n cap xs hs hown ad m c news hx hl hnews h1 hc (fun w' r1 r2 => h _ _ r1 (ownsRow_take r1 (by simpa using hown.1)) r2)
  · refine wpList_append_grows w hgd s x t ho e i z 1 bytes ht hi hz hsize hby hzs (by omega) (some ⟨g, 0, none⟩) n cap xs hs (by simp) hown.1 (fun b hb => ?_) ad m c news hx hl hnews h1 (by omega) h63 hbytes (fun v' w' r1 r2 => h _ _ (ownsRow_base r1 hbase) (hown.kept r2 (.inr (by simp [Value.ownBlock]))) ?_)
    · cases hb; exact hown.cells rfl
    · exact ⟨r2.os, r2.tape, r2.output, r2.size, fun k hk _ => r2.block k hk (by simp)⟩

theorem two_row (w : World) (x y : Int) (k : IntKind) (t : TypeId) (hx : (Lit.int k x).wf = true) (hy : (Lit.int k y).wf = true) : RowIn k (w.alloc (.cells #[.int k x, .int k y] t)) (some ⟨w.heap.size, 0, none⟩) 2 [x, y] := by
  refine ⟨⟨by simp, by simp [maxLen]⟩, by simp [hx, hy], .inr ⟨_, _, rfl, by simp, ?_⟩⟩
  intro i hi
  have hb : (w.alloc (.cells #[.int k x, .int k y] t)).heap[w.heap.size]? = some (.cells #[.int k x, .int k y] t) := World.alloc_heap_new w _
  match i, hi with
  | 0, _ => unfold World.cell?; rw [show (⟨w.heap.size, 0 + 0, none⟩ : Addr).block = w.heap.size from rfl, hb]; rfl
  | 1, _ => unfold World.cell?; rw [show (⟨w.heap.size, 0 + 1, none⟩ : Addr).block = w.heap.size from rfl, hb]; rfl

theorem row3_of {w : World} {B g cap : Nat} {xs : List Int} {k : IntKind} {e n : Nat} (h : w.ownsRow B e 1 (.slice (some ⟨g, 0, none⟩) n cap) n (xs.map (Value.int k))) (hw : ∀ n ∈ xs, (Lit.int k n).wf = true) : RowIn k w (some ⟨g, 0, none⟩) cap xs := by
  obtain ⟨a, c, he, _, hr⟩ := ownsRow_rowIn h hw
  simp at he
  obtain ⟨rfl, rfl⟩ := he
  exact hr

/-- A slice of the call's own, whatever its address, reads as its list. -/
theorem row3_like {w : World} {B cap : Nat} {a : Option Addr} {xs : List Int} {k : IntKind} {e n : Nat} (h : w.ownsRow B e 1 (.slice a n cap) n (xs.map (Value.int k))) (hw : ∀ n ∈ xs, (Lit.int k n).wf = true) : RowIn k w a cap xs := by
  obtain ⟨a', c, he, _, hr⟩ := ownsRow_rowIn h hw
  simp at he
  obtain ⟨rfl, rfl⟩ := he
  exact hr

theorem own_cell {w : World} {B e n : Nat} {g cap : Nat} {xs : List Value} (h : w.ownsRow B e 1 (.slice (some ⟨g, 0, none⟩) n cap) n xs) {j : Nat} {u : Value} (hj : xs[j]? = some u) : w.cell? ⟨g, j, none⟩ = some u := by
  have := h.cells (g := g) rfl j u hj
  rw [WideShapes.add_plain] at this
  simpa using this

/-- A read number's bytes. -/
theorem byte_of {L : List Int} (h : ∀ n ∈ L, (Lit.int .u8 n).wf = true) : ∀ c ∈ L, 0 ≤ c ∧ c ≤ 255 := fun c hc => bounds_u8 (h c hc)
/-- append, to a slice of the call's own, of whatever slice of integers (nil, too). -/
theorem wpList_append_row {P : Program} (w : World) {ops : Array Oper} {rest : List Oper} {o : Oper} {a : Act} {Q : Exit → Act → World → Prop} (hgd : o.guard = none) (s x : Operand) (t : TypeId)
    (ho : o.op = .call { callee := .builtin .append, args := #[s, x], argTypes := #[t, t] })
    (base : Nat) (e : TypeId) (i : TypeInfo) (z : Value) (bytes : Nat) (ht : P.underlying t = some (.slice e)) (hi : P.info? e = some i) (hz : i.zero = some z)
    (hsize : i.size = 1) (hby : i.bytes = bytes) (hzs : z.cells.size = 1)
    (v : Value) (n : Nat) (xs : List Value) (hs : a.eval s = v) (hown : w.ownsRow base e 1 v n xs)
    (k : IntKind) (ad : Option Addr) (m c : Nat) (L : List Int) (hx : a.eval x = .slice ad m c) (hr : RowIn k w ad c L) (hm : L.length = m) (hc0 : ad = none → m = 0 ∧ c = 0)
    (h63 : n + m ≤ maxLen) (hbytes : (n + m) * bytes ≤ 140737488355328) (hbase : base ≤ w.heap.size)
    (h : ∀ v' w', w'.ownsRow base e 1 v' (n + m) (xs ++ L.map (Value.int k)) → w.grownBy w' v.ownBlock → wpList P ops Q rest (a.put o.dst v') w') : wpList P ops Q (o :: rest) a w := by
  cases ad with
  | none =>
    obtain ⟨rfl, rfl⟩ := hc0 rfl
    obtain rfl : L = [] := List.eq_nil_of_length_eq_zero hm
    exact wpList_append_own_none hgd s x t ho base e i 1 ht hi v n xs hs hown hx (h v w (by simpa using hown) ⟨rfl, rfl, rfl, Nat.le_refl _, fun _ _ _ => rfl⟩)
  | some ad =>
    refine wpList_append_own w hgd s x t ho base e i z 1 bytes ht hi hz hsize hby hzs (by decide) v n xs hs hown ad m c (L.map (Value.int k)) hx (by simp [hm]) (fun j u hj => ?_) (ints_one k L) h63 hbytes hbase (fun v' w' h1 h2 _ => h v' w' h1 h2)
    rcases hr.2.2 with rfl | ⟨b, off, he, _, hc⟩
    · simp at hj
    · cases he
      obtain ⟨hj', hv⟩ := List.getElem?_eq_some_iff.1 hj
      rw [WideShapes.add_plain, hc j (by simpa using hj')]
      rw [← hv]
      simp at hj'
      simp [hj']

theorem own_row {k : IntKind} {w : World} {B e n : Nat} {v : Value} {L : List Int} (h : w.ownsRow B e 1 v n (L.map (Value.int k))) (hw : ∀ n ∈ L, (Lit.int k n).wf = true) : ∃ a cap, v = .slice a n cap ∧ RowIn k w a cap L := by
  obtain ⟨a, cap, h1, _, h2⟩ := ownsRow_rowIn h hw
  exact ⟨a, cap, h1, h2⟩

theorem IsRow.nil {k : IntKind} {w : World} {a : Option Addr} {len cap : Nat} {zs : List Int} (h : IsRow k w a len cap zs) : a = none → len = 0 ∧ cap = 0 := by
  rcases h with ⟨_, rfl, rfl, _⟩ | ⟨x, rfl, _⟩
  · exact fun _ => ⟨rfl, rfl⟩
  · intro h; cases h

/-- The string of bytes. -/
def strOf (L : List Int) : ByteArray := ⟨(L.map fun n => UInt8.ofNat n.toNat).toArray⟩

theorem foldl_push_ints : ∀ (l : List Int) (r : ByteArray), l.foldl (fun r n => r.push (UInt8.ofNat n.toNat)) r = ⟨r.data ++ (l.map fun n => UInt8.ofNat n.toNat).toArray⟩
  | [], r => by simp
  | b :: l, r => by
    simp only [List.foldl_cons, List.map_cons]
    rw [foldl_push_ints l]
    simp [ByteArray.push]

theorem conv_row {w : World} {a : Option Addr} {n cap : Nat} {L : List Int} (h : RowIn .u8 w a cap L) (hn : L.length = n) : (convert 23 9 (.slice a n cap)).run Try.prog w = .ok (.string (strOf L)) w := by
  rw [run_convert_bytes_string w 23 9 5 a n cap Try.underlying23 Try.underlying5 Try.underlying9]
  cases a with
  | none =>
    rcases h.2.2 with rfl | ⟨b, off, he, _⟩
    · rfl
    · cases he
  | some x =>
    have hl := run_loadCells_list (P := Try.prog) w x (L.map (Value.int .u8)) (fun j v hj => by
      rcases h.2.2 with rfl | ⟨b, off, he, _, hc⟩
      · simp at hj
      · cases he
        obtain ⟨hj', hv⟩ := List.getElem?_eq_some_iff.1 hj
        rw [WideShapes.add_plain, hc j (by simpa using hj')]
        rw [← hv]
        simp at hj'
        simp [hj'])
    rw [List.length_map, hn] at hl
    rw [run_bytesToString w x n cap L hl, foldl_push_ints]
    have he0 : ByteArray.empty.data = #[] := rfl
    rw [he0]
    simp [strOf]

theorem u8_inj {a b : Int} (ha : 0 ≤ a ∧ a ≤ 255) (hb : 0 ≤ b ∧ b ≤ 255) (h : UInt8.ofNat a.toNat = UInt8.ofNat b.toNat) : a = b := by
  have := congrArg UInt8.toNat h
  simp at this
  omega

theorem map_u8_inj : ∀ {L K : List Int}, (∀ c ∈ L, 0 ≤ c ∧ c ≤ 255) → (∀ c ∈ K, 0 ≤ c ∧ c ≤ 255) → (L.map fun n => UInt8.ofNat n.toNat) = (K.map fun n => UInt8.ofNat n.toNat) → L = K
  | [], [], _, _, _ => rfl
  | [], _ :: _, _, _, h => by simp at h
  | _ :: _, [], _, _, h => by simp at h
  | a :: L, b :: K, hl, hk, h => by
    simp only [List.map_cons, List.cons.injEq] at h
    rw [u8_inj (hl a (by simp)) (hk b (by simp)) h.1, map_u8_inj (fun c hc => hl c (by simp [hc])) (fun c hc => hk c (by simp [hc])) h.2]

theorem strOf_inj {L K : List Int} (hl : ∀ c ∈ L, (Lit.int .u8 c).wf = true) (hk : ∀ c ∈ K, (Lit.int .u8 c).wf = true) (h : strOf L = strOf K) : L = K := by
  unfold strOf at h
  have h' : (L.map fun n => UInt8.ofNat n.toNat).toArray = (K.map fun n => UInt8.ofNat n.toNat).toArray := by simpa using congrArg ByteArray.data h
  exact map_u8_inj (byte_of hl) (byte_of hk) (by simpa using h')

theorem strOf_append (L K : List Int) : strOf L ++ strOf K = strOf (L ++ K) := by
  unfold strOf
  apply ByteArray.ext
  simp

theorem str_beq {L K : List Int} (hl : ∀ c ∈ L, (Lit.int .u8 c).wf = true) (hk : ∀ c ∈ K, (Lit.int .u8 c).wf = true) : ((strOf L).toList == (strOf K).toList) = decide (L = K) := by
  rw [ByteArray.toList_eq, ByteArray.toList_eq, Bool.eq_iff_iff, beq_iff_eq, decide_eq_true_iff]
  exact ⟨fun h => strOf_inj hl hk (WideShapes.bytes_inj h), fun h => by rw [h]⟩

theorem strOf_size (L : List Int) : (strOf L).size = L.length := by
  show (L.map fun n => UInt8.ofNat n.toNat).toArray.size = _
  simp
theorem below_drew (w : World) : Below w.heap.size w w.drew := (Below.refl _ _).drew
end Go.Proofs.Ytebiogadkamgcaa
