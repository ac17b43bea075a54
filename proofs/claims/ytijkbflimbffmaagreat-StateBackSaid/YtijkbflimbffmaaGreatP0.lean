import Derived.Test.YtijkbflimbffmaaGreatProg
import Derived.WalkKit
import Derived.OwnWalk
import Derived.LoopTactic
import Derived.WalkSpells
import Derived.Maps.AppendAt
import Derived.Lib.Hide
import Derived.Outline
import Derived.WalkMore
import Derived.OpenShut
import Derived.Deep.LoopGhost
import Derived.BigQuiet
import Derived.Deep.QuietTactic
import Derived.Laws.AppendOwnNone
import Derived.Laws.BytesString
import Derived.RangeFuncRecord
import Derived.OrdersHeld
import Derived.Deep.OwnRows
import Derived.Laws.Rows
import Derived.RangeFuncBox
import Derived.Deep.RegionWith
namespace Go.Proofs.YtijkbflimbffmaaGreat
namespace Y
structure Po where
 q : Int
 i : Int
 h : Int
 pair : Bool
deriving DecidableEq
structure Ev where
 k : Int
 t : Int
 a : Int
 b : Int
 c : Int
 p : Po
deriving DecidableEq
def zp : Po := ⟨0, 0, 0, false⟩
def MayP (p : Po) : Prop := 1 <= p.q /\ p.q <= 8 /\ 1 <= p.i /\ p.i <= 1048576 /\ 0 <= p.h /\ p.h <= 1048576
instance (p : Po) : Decidable (MayP p) := by unfold MayP; exact inferInstance
end Y
end Go.Proofs.YtijkbflimbffmaaGreat
namespace Go.Proofs.YtijkbflimbffmaaGreat
open Go.RowKit
theorem tk {P : Program} {md : Region.Mode} {ops : Array Oper} {Q : Exit -> Act -> World -> Prop} {S : World -> Prop} (i : Nat) (v : Value) {oi : Oper} {fuel : Nat} {listed : Array Bool} {a : Act} {w : World} (hS : S w)
  (h : wpAnyH P md ops Q S fuel (listed.setIfInBounds i true) (a.put oi.dst v) w) (hi : ops[i]? = some oi := by exact rfl) (hs : Region.noSelect ops = true := by kernel_rfl) (hf : Region.free md ops listed i = true := by kernel_rfl)
  (hr : (Region.ready md ops listed).contains i = true := by kernel_rfl) (hQ : ∀ c a w, Q (.panic c) (a.put oi.dst v) w -> Q (.panic c) a w := by exact fun _ _ _ h => h)
  (hy : YieldsIf P ops S oi v a := by exact .inl ⟨by kernel_rfl, fun w9 hS => by kernel_rfl⟩) : wpAnyH P md ops Q S (fuel + 1) listed a w := wpAnyH_take hi hs hf hr hQ hy hS h
theorem tko {P : Program} {md : Region.Mode} {ops : Array Oper} {Q : Exit -> Act -> World -> Prop} {S : World -> Prop} (i : Nat) {oi : Oper} {fuel : Nat} {listed : Array Bool} {a : Act} {w : World} (hS : S w)
  (h : wpAnyH P md ops Q S fuel (listed.setIfInBounds i true) (a.put oi.dst undef) w) (hi : ops[i]? = some oi := by exact rfl) (hs : Region.noSelect ops = true := by kernel_rfl) (hf : Region.free md ops listed i = true := by kernel_rfl)
  (hr : (Region.ready md ops listed).contains i = true := by kernel_rfl) (hQ : ∀ c a w, Q (.panic c) (a.put oi.dst undef) w -> Q (.panic c) a w := by exact fun _ _ _ h => h)
  (hy : YieldsIf P ops S oi undef a := by exact .inr ⟨by kernel_rfl, rfl⟩) : wpAnyH P md ops Q S (fuel + 1) listed a w := wpAnyH_take hi hs hf hr hQ hy hS h
theorem zrf : (Tryz.prog.info? 5).map (fun i => (i.zero, i.size, i.bytes)) = some (some (.int .u8 0), 1, 1) := by kernel_rfl
theorem zl3 : (Tryz.prog.info? 3).map (fun i => (i.zero, i.size, i.bytes)) = some (some (.int .i64 0), 1, 8) := by kernel_rfl
theorem zng {w wr w1 : World} {B e size n : Nat} {v : Value} {xs : List Value} {tmp : Obj} (hown : wr.ownsRow B e size v n xs) (hBw : B <= wr.heap.size) (hB : Below B w wr) (hgrow : (wr.alloc tmp).grownBy w1 v.ownBlock) : Below B w w1 :=
 (hB.alloc hBw tmp).grown hgrow (by simp; omega) fun k ek => (hown.lt k ek).1
theorem znq {w wr w1 : World} {B e size n : Nat} {v : Value} {xs : List Value} (hown : wr.ownsRow B e size v n xs) (hBw : B <= wr.heap.size) (hB : Below B w wr) (hgrow : wr.grownBy w1 v.ownBlock) : Below B w w1 :=
 hB.grown hgrow hBw fun k ek => (hown.lt k ek).1
def zsp (k : IntKind) (w : World) (a : Option Addr) (len cap : Nat) (zs : List Int) : Prop :=
 (a = none /\ len = 0 /\ cap = 0 /\ zs = []) \/
 ∃ x, a = some x /\ len <= cap /\ cap <= maxLen /\ zs.length = cap /\ (∀ i, i < zs.length -> w.cell? (x.add i) = some (.int k (zs.getD i 0))) /\ ∀ n ∈ zs, (Lit.int k n).wf = true
theorem znz {zs : List Int} {len k : Nat} (hk : k < len) (hz : len <= zs.length) : (zs.take len).drop k = zs.getD k 0 :: (zs.take len).drop (k + 1) := by
 have h1 : k < (zs.take len).length := by simp; omega
 rw [List.drop_eq_getElem_cons h1]
 congr 1
 have h2 : k < zs.length := by omega
 simp [List.getElem_take, h2]
def zfv (k : IntKind) (w : World) (a : Option Addr) (cap : Nat) (L : List Int) : Prop :=
 (L.length <= cap /\ cap <= maxLen) /\ (∀ n ∈ L, (Lit.int k n).wf = true) /\
 (L = [] \/ ∃ b off, a = some ⟨b, off, none⟩ /\ b < w.heap.size /\ ∀ i, i < L.length -> w.cell? ⟨b, off + i, none⟩ = some (.int k (L.getD i 0)))
theorem zsp.rowIn {k : IntKind} {w : World} {a : Option Addr} {len cap : Nat} {zs : List Int} (h : zsp k w a len cap zs) : zfv k w a cap (zs.take len) /\ (zs.take len).length = len := by
 rcases h with ⟨rfl, rfl, rfl, rfl⟩ | ⟨x, rfl, hl, hm, hz, hc, hw⟩
 ·exact ⟨⟨⟨by simp, by simp [maxLen]⟩, by simp, .inl rfl⟩, rfl⟩
 ·have hlen : (zs.take len).length = len := by simp; omega
  refine ⟨⟨⟨by omega, hm⟩, fun n hn => hw n (List.mem_of_mem_take hn), ?_⟩, hlen⟩
  by_cases h0 : len = 0
  ·exact .inl (by simp [h0])
  ·obtain ⟨b, off, rfl, hc'⟩ := ints_at hc (by omega)
   refine .inr ⟨b, off, rfl, World.block_lt_of_cell? (a := ⟨b, off + 0, none⟩) _ (hc' 0 (by omega)), fun i hi => ?_⟩
   rw [hc' i (by omega)]
   congr 2
   simp [show i < len by omega]
theorem zfv.below {k : IntKind} {w w' : World} {a : Option Addr} {cap : Nat} {L : List Int} (h : zfv k w a cap L) (hb : Below w.heap.size w w') : zfv k w' a cap L := by
 refine ⟨h.1, h.2.1, ?_⟩
 rcases h.2.2 with h0 | ⟨b, off, rfl, hlt, hc⟩
 ·exact .inl h0
 ·exact .inr ⟨b, off, rfl, Nat.lt_of_lt_of_le hlt hb.size, fun i hi => (hb.cell (p := ⟨b, off + i, none⟩) hlt).trans (hc i hi)⟩
theorem zfv.belowN {k : IntKind} {B : Nat} {w w' : World} {a : Option Addr} {cap : Nat} {L : List Int} (h : zfv k w a cap L) (hB : w.heap.size <= B) (hb : Below B w w') : zfv k w' a cap L := h.below (hb.mono hB)
theorem zab {w w' : World} {B e sz n : Nat} {v : Value} {xs : List Value} (h : w.ownsRow B e sz v n xs) (hb : Below w.heap.size w w') : w'.ownsRow B e sz v n xs := by
 refine ⟨h.1, ?_⟩
 rcases h.2 with hn | ⟨g, cap, cur, rfl, hb', hgg, rest⟩
 ·exact .inl hn
 ·exact .inr ⟨g, cap, cur, rfl, hb', (hb.block g (Array.getElem?_eq_some_iff.1 hgg).1).trans hgg, rest⟩
theorem zex {k : IntKind} {w : World} {B e n : Nat} {v : Value} {L : List Int} (h : w.ownsRow B e 1 v n (L.map (Value.int k))) (hw : ∀ n ∈ L, (Lit.int k n).wf = true) : ∃ a cap, v = .slice a n cap /\ n = L.length /\ zfv k w a cap L := by
 have hn : L.length = n := by simpa using h.1
 rcases h.2 with ⟨rfl, rfl⟩ | ⟨g, cap, cur, rfl, _, hgg, hle, hm, hsz, htake⟩
 ·have : L = [] := List.eq_nil_of_length_eq_zero hn
  subst this
  exact ⟨none, 0, rfl, rfl, ⟨by simp, by simp [maxLen]⟩, by simp, .inl rfl⟩
 ·refine ⟨_, cap, rfl, hn.symm, ⟨by omega, hm⟩, hw, .inr ⟨g, 0, rfl, (Array.getElem?_eq_some_iff.1 hgg).1, fun i hi => ?_⟩⟩
  have hc := h.cells (g := g) rfl i (.int k (L.getD i 0)) (by simp [hi])
  rw [WideShapes.add_plain] at hc
  exact hc
theorem zpm {w : World} {B e n : Nat} {v : Value} {xs : List Value} (h : w.ownsRow B e 1 v n xs) (hn : 0 < n) : ∃ g cap, v = .slice (some ⟨g, 0, none⟩) n cap := by
 rcases h.2 with ⟨_, h0⟩ | ⟨g, cap, _, rfl, _⟩
 ·omega
 ·exact ⟨g, cap, rfl⟩
theorem zoh (k : IntKind) (L : List Int) : ∀ u ∈ L.map (Value.int k), u.oneCell' = true := by
 intro u hu
 obtain ⟨n, _, rfl⟩ := List.mem_map.1 hu
 rfl
theorem zm9 {w : World} {B e n : Nat} {v : Value} {xs : List Value} (h : w.ownsRow B e 1 v n xs) : ∃ a cap, v = .slice a n cap := by
 rcases h.2 with ⟨rfl, rfl⟩ | ⟨g, cap, _, rfl, _⟩
 ·exact ⟨_, _, rfl⟩
 ·exact ⟨_, _, rfl⟩
theorem zad (B : Nat) (w : World) : ∀ n, Below B w (w.drewN n)
 | 0 => Below.refl _ _
 | n + 1 => by
  have := zad B w n
  exact ⟨this.os, this.tape, this.output, this.size, this.block⟩
theorem zan {w : World} {B B' e sz n : Nat} {v : Value} {xs : List Value} (h : w.ownsRow B e sz v n xs) (hB : B' <= B) : w.ownsRow B' e sz v n xs := by
 refine ⟨h.1, ?_⟩
 rcases h.2 with hn | ⟨g, cap, cur, rfl, hb, rest⟩
 ·exact .inl hn
 ·exact .inr ⟨g, cap, cur, rfl, Nat.le_trans hB hb, rest⟩
theorem zn3 {w : World} {B cap : Nat} {a : Option Addr} {xs : List Int} {k : IntKind} {e n : Nat} (h : w.ownsRow B e 1 (.slice a n cap) n (xs.map (Value.int k))) (hw : ∀ n ∈ xs, (Lit.int k n).wf = true) : zfv k w a cap xs := by
 obtain ⟨a', c, he, _, hr⟩ := zex h hw
 simp at he
 obtain ⟨rfl, rfl⟩ := he
 exact hr
theorem zo9 {L : List Int} (h : ∀ n ∈ L, (Lit.int .u8 n).wf = true) : ∀ c ∈ L, 0 <= c /\ c <= 255 := fun c hc => bounds_u8 (h c hc)
theorem znf {P : Program} (w : World) {ops : Array Oper} {rest : List Oper} {o : Oper} {a : Act} {Q : Exit -> Act -> World -> Prop} (hgd : o.guard = none) (s x : Operand) (t : TypeId)
  (ho : o.op = .call { callee := .builtin .append, args := #[s, x], argTypes := #[t, t] })
  (base : Nat) (e : TypeId) (i : TypeInfo) (z : Value) (bytes : Nat) (ht : P.underlying t = some (.slice e)) (hi : P.info? e = some i) (hz : i.zero = some z)
  (hsize : i.size = 1) (hby : i.bytes = bytes) (hzs : z.cells.size = 1)
  (v : Value) (n : Nat) (xs : List Value) (hs : a.eval s = v) (hown : w.ownsRow base e 1 v n xs)
  (k : IntKind) (ad : Option Addr) (m c : Nat) (L : List Int) (hx : a.eval x = .slice ad m c) (hr : zfv k w ad c L) (hm : L.length = m) (hc0 : ad = none -> m = 0 /\ c = 0)
  (h63 : n + m <= maxLen) (hbytes : (n + m) * bytes <= 140737488355328) (hbase : base <= w.heap.size)
  (h : ∀ v' w', w'.ownsRow base e 1 v' (n + m) (xs ++ L.map (Value.int k)) -> w.grownBy w' v.ownBlock -> wpList P ops Q rest (a.put o.dst v') w') : wpList P ops Q (o :: rest) a w := by
 cases ad with
 | none =>
  obtain ⟨rfl, rfl⟩ := hc0 rfl
  obtain rfl : L = [] := List.eq_nil_of_length_eq_zero hm
  exact wpList_append_own_none hgd s x t ho base e i 1 ht hi v n xs hs hown hx (h v w (by simpa using hown) ⟨rfl, rfl, rfl, Nat.le_refl _, fun _ _ _ => rfl⟩)
 | some ad =>
  refine wpList_append_own w hgd s x t ho base e i z 1 bytes ht hi hz hsize hby hzs (by decide) v n xs hs hown ad m c (L.map (Value.int k)) hx (by simp [hm]) (fun j u hj => ?_) (zoh k L) h63 hbytes hbase (fun v' w' h1 h2 _ => h v' w' h1 h2)
  rcases hr.2.2 with rfl | ⟨b, off, he, _, hc⟩
  ·simp at hj
  ·cases he
   obtain ⟨hj', hv⟩ := List.getElem?_eq_some_iff.1 hj
   rw [WideShapes.add_plain, hc j (by simpa using hj')]
   rw [<- hv]
   simp at hj'
   simp [hj']
theorem zsq {k : IntKind} {w : World} {B e n : Nat} {v : Value} {L : List Int} (h : w.ownsRow B e 1 v n (L.map (Value.int k))) (hw : ∀ n ∈ L, (Lit.int k n).wf = true) : ∃ a cap, v = .slice a n cap /\ zfv k w a cap L := by
 obtain ⟨a, cap, h1, _, h2⟩ := zex h hw
 exact ⟨a, cap, h1, h2⟩
def zrg (L : List Int) : ByteArray := ⟨(L.map fun n => UInt8.ofNat n.toNat).toArray⟩
theorem znr : ∀ (l : List Int) (r : ByteArray), l.foldl (fun r n => r.push (UInt8.ofNat n.toNat)) r = ⟨r.data ++ (l.map fun n => UInt8.ofNat n.toNat).toArray⟩
 | [], r => by simp
 | b :: l, r => by
  simp only [List.foldl_cons, List.map_cons]
  rw [znr l]
  simp [ByteArray.push]
theorem znu {w : World} {a : Option Addr} {n cap : Nat} {L : List Int} (h : zfv .u8 w a cap L) (hn : L.length = n) : (convert 36 9 (.slice a n cap)).run Tryz.prog w = .ok (.string (zrg L)) w := by
 rw [run_convert_bytes_string w 36 9 5 a n cap Tryz.underlying36 Tryz.underlying5 Tryz.underlying9]
 cases a with
 | none =>
  rcases h.2.2 with rfl | ⟨b, off, he, _⟩
  ·rfl
  ·cases he
 | some x =>
  have hl := run_loadCells_list (P := Tryz.prog) w x (L.map (Value.int .u8)) (fun j v hj => by
   rcases h.2.2 with rfl | ⟨b, off, he, _, hc⟩
   ·simp at hj
   ·cases he
    obtain ⟨hj', hv⟩ := List.getElem?_eq_some_iff.1 hj
    rw [WideShapes.add_plain, hc j (by simpa using hj')]
    rw [<- hv]
    simp at hj'
    simp [hj'])
  rw [List.length_map, hn] at hl
  rw [run_bytesToString w x n cap L hl, znr]
  have he0 : ByteArray.empty.data = #[] := rfl
  rw [he0]
  simp [zrg]
theorem zaa (w : World) : Below w.heap.size w w.drew := (Below.refl _ _).drew
open Go.RowKit
def Blok (w : World) (g : Nat) (t : TypeId) (cs : Array Value) : Prop := w.heap[g]? = some (.cells cs t (0, 0))
theorem Blok.lt {w : World} {g : Nat} {t : TypeId} {cs : Array Value} (h : Blok w g t cs) : g < w.heap.size := (Array.getElem?_eq_some_iff.1 h).1
theorem Blok.cell {w : World} {g : Nat} {t : TypeId} {cs : Array Value} (h : Blok w g t cs) (i : Nat) : w.cell? ⟨g, i, none⟩ = cs[i]? := cell_of_row w g i cs t (0, 0) h
theorem Blok.frozen {w : World} {g : Nat} {t : TypeId} {cs : Array Value} (h : Blok w g t cs) (i : Nat) : w.frozen? ⟨g, i, none⟩ = false := by
 have h' : w.heap[g]? = some (.cells cs t (0, 0)) := h
 simp [World.frozen?, h']
theorem Blok.new (w : World) (t : TypeId) (cs : Array Value) : Blok (w.alloc (.cells cs t)) w.heap.size t cs := World.alloc_heap_new w _
theorem Blok.alloc {w : World} {g : Nat} {t : TypeId} {cs : Array Value} (h : Blok w g t cs) (o : Obj) : Blok (w.alloc o) g t cs := (((Below.refl w.heap.size w).alloc (Nat.le_refl _) o).block g h.lt).trans h
theorem Blok.far {w : World} {g : Nat} {t : TypeId} {cs : Array Value} (h : Blok w g t cs) {p : Addr} (hp : g ≠ p.block) (u : Value) : Blok (w.setCell p u) g t cs := by
 have h' : w.heap[g]? = some (.cells cs t (0, 0)) := h
 show (w.setCell p u).heap[g]? = _
 simp [World.setCell, Array.getElem?_modify, h', Ne.symm hp]
theorem Blok.set {w : World} {g : Nat} {t : TypeId} {cs : Array Value} (h : Blok w g t cs) (i : Nat) (u : Value) : Blok (w.setCell ⟨g, i, none⟩ u) g t (cs.setIfInBounds i u) := by
 have h' : w.heap[g]? = some (.cells cs t (0, 0)) := h
 show (w.setCell ⟨g, i, none⟩ u).heap[g]? = _
 simp [World.setCell, Array.getElem?_modify, h']
theorem Blok.below {B : Nat} {w w' : World} {g : Nat} {t : TypeId} {cs : Array Value} (h : Blok w g t cs) (hb : Below B w w') (hg : g < B) : Blok w' g t cs := (hb.block g hg).trans h
theorem Blok.grown {w w' : World} {g : Nat} {t : TypeId} {cs : Array Value} {row : Option Nat} (h : Blok w g t cs) (hb : w.grownBy w' row) (hg : some g ≠ row) : Blok w' g t cs := (hb.block g h.lt hg).trans h
theorem Blok.drew {w : World} {g : Nat} {t : TypeId} {cs : Array Value} (h : Blok w g t cs) : Blok w.drew g t cs := h
theorem Blok.drewN {w : World} {g : Nat} {t : TypeId} {cs : Array Value} (h : Blok w g t cs) (n : Nat) : Blok (w.drewN n) g t cs := h
theorem Blok.row {k : IntKind} {w : World} {g cap : Nat} {t : TypeId} {L : List Int} (h : Blok w g t (L.map (Value.int k)).toArray) (hw : ∀ n ∈ L, (Lit.int k n).wf = true) (hc : L.length <= cap) (hm : cap <= maxLen) : zfv k w (some ⟨g, 0, none⟩) cap L := by
 refine ⟨⟨hc, hm⟩, hw, .inr ⟨g, 0, rfl, h.lt, fun i hi => ?_⟩⟩
 rw [Nat.zero_add, h.cell i]
 simp [hi]
theorem Blok.own {w : World} {g cap n : Nat} {t : TypeId} {xs : List Value} (h : Blok w g t xs.toArray) {B : Nat} (hB : B <= g) (hn : xs.length = n) (hc : n <= cap) (hm : cap <= maxLen) (hx : xs.length = cap) : w.ownsRow B t 1 (.slice (some ⟨g, 0, none⟩) n cap) n xs := by
 refine ⟨by omega, .inr ⟨g, cap, xs.toArray, rfl, hB, h, by omega, hm, by simp; omega, ?_⟩⟩
 simp [List.take_of_length_le (show xs.length <= n by omega)]
theorem zoj (k : IntKind) (n : Nat) : madeCells #[Value.int k 0] n = ((List.replicate n (0 : Int)).map (Value.int k)).toArray := by
 apply Array.ext'
 rw [toList_madeCells_one]
 simp
def zns (xs : List Int) (n : Nat) : List Int := xs ++ List.replicate (n - xs.length) 0
theorem zoy (n : Nat) : zns [] n = List.replicate n 0 := by simp [zns]
theorem zoz {xs : List Int} {n : Nat} (h : n <= xs.length) : zns xs n = xs := by simp [zns, show n - xs.length = 0 by omega]
theorem zo0 {xs : List Int} {n : Nat} (h : xs.length < n) (k : IntKind) (x : Int) : ((zns xs n).map (Value.int k)).toArray.setIfInBounds xs.length (.int k x) = ((zns (xs ++ [x]) n).map (Value.int k)).toArray := by
 apply Array.ext'
 obtain ⟨m, hm⟩ : ∃ m, n - xs.length = m + 1 := ⟨n - xs.length - 1, by omega⟩
 have hm' : n - (xs.length + 1) = m := by omega
 simp [zns, hm, hm', List.replicate_succ]
theorem zn2 {xs : List Int} {n j : Nat} (h : xs.length = j) (hj : j < n) (k : IntKind) : ((zns xs n).map (Value.int k)).toArray[j]? = some (.int k 0) := by
 subst h
 obtain ⟨m, hm⟩ : ∃ m, n - xs.length = m + 1 := ⟨n - xs.length - 1, by omega⟩
 simp [zns, hm, List.replicate_succ]
theorem znj {k : IntKind} {a b : Int} (h : a = b) : Ending.returned (.int k a) = .returned (.int k b) := by rw [h]
theorem zl4 {k : IntKind} {w : World} {a : Option Addr} {cap i : Nat} {L : List Int} (h : zfv k w a cap L) (hi : i < L.length) : ∃ b off, a = some ⟨b, off, none⟩ /\ b < w.heap.size /\ w.cell? ⟨b, off + i, none⟩ = some (.int k (L.getD i 0)) := by
 rcases h.2.2 with rfl | ⟨b, off, rfl, hb, hc⟩
 ·simp at hi
 ·exact ⟨b, off, rfl, hb, hc i hi⟩
theorem take_snoc {L : List Int} {k : Nat} (hk : k < L.length) : L.take (k + 1) = L.take k ++ [L.getD k 0] := by
 rw [List.take_succ_eq_append_getElem hk]; simp [hk]
theorem zfv.take {k : IntKind} {w : World} {a : Option Addr} {cap : Nat} {L : List Int} (h : zfv k w a cap L) (j : Nat) : zfv k w a cap (L.take j) := by
 refine ⟨⟨?_, h.1.2⟩, fun n hn => h.2.1 n (List.mem_of_mem_take hn), ?_⟩
 ·have := h.1.1; simp; omega
 ·rcases h.2.2 with rfl | ⟨b, off, rfl, hb, hc⟩
  ·exact .inl (by simp)
  ·refine .inr ⟨b, off, rfl, hb, fun i hi => ?_⟩
   simp at hi
   rw [hc i (by omega)]
   simp [show i < L.length by omega, show i < j by omega]
theorem Zn (w : World) (t : TypeId) (cs : Array Value) : ∃ w1, w.alloc (.cells cs t) = w1 /\ Below w.heap.size w w1 /\ Blok w1 w.heap.size t cs := ⟨_, rfl, (Below.refl _ w).alloc (Nat.le_refl _) _, Blok.new w _ _⟩
theorem Zh {p : Prop} (h : p) : Hid p := Lib.hid h
theorem Zk {w w' : World} {g : Nat} {t : TypeId} {cs : Array Value} (h : Hid (Blok w g t cs)) (hb : Below w.heap.size w w') : Hid (Blok w' g t cs) := Lib.hid (h.out.below hb h.out.lt)
theorem Zt {w w1 w2 : World} (h : Hid (Below w.heap.size w w1)) (hb : Below w1.heap.size w1 w2) : Hid (Below w.heap.size w w2) := Lib.hid (h.out.trans (hb.mono h.out.size))
theorem Zr {w w1 w2 : World} (h : Below w.heap.size w w1) (hb : Below w1.heap.size w1 w2) : Below w.heap.size w w2 := h.trans (hb.mono h.size)
theorem Zl {P : Program} {md : Region.Mode} {ops : Array Oper} {Q : Exit -> Act -> World -> Prop} {S : World -> Prop} (i : Nat) (v : Value) {oi : Oper} {fuel : Nat} {listed : Array Bool} {a : Act} {w : World} (hi : ops[i]? = some oi) (hy : ∀ w, S w -> (execOp a.eval oi).run P w = .ok (.value v) w) (hS : S w)
  (h : wpAnyH P md ops Q S fuel (listed.setIfInBounds i true) (a.put oi.dst v) w) (hs : Region.noSelect ops = true := by kernel_rfl) (hf : Region.free md ops listed i = true := by kernel_rfl)
  (hr : (Region.ready md ops listed).contains i = true := by kernel_rfl) (hQ : ∀ c a w, Q (.panic c) (a.put oi.dst v) w -> Q (.panic c) a w := by exact fun _ _ _ h => h)
  (hw : Region.wanted oi (yielded ops a.tmps) = true := by kernel_rfl) : wpAnyH P md ops Q S (fuel + 1) listed a w := wpAnyH_take hi hs hf hr hQ (.inl ⟨hw, hy⟩) hS h
theorem Zq {P : Program} {md : Region.Mode} {ops : Array Oper} {Q : Exit -> Act -> World -> Prop} {S : World -> Prop} (i b o : Nat) {oi : Oper} {fuel : Nat} {listed : Array Bool} {a : Act} {w : World} (hS : S w)
  (h : wpAnyH P md ops Q S fuel (listed.setIfInBounds i true) (a.put oi.dst (.pointer (some ⟨b, o, none⟩))) w) (hi : ops[i]? = some oi := by exact rfl) (hs : Region.noSelect ops = true := by kernel_rfl) (hf : Region.free md ops listed i = true := by kernel_rfl)
  (hr : (Region.ready md ops listed).contains i = true := by kernel_rfl) (hQ : ∀ c a w, Q (.panic c) (a.put oi.dst (.pointer (some ⟨b, o, none⟩))) w -> Q (.panic c) a w := by exact fun _ _ _ h => h)
  (hy : YieldsIf P ops S oi (.pointer (some ⟨b, o, none⟩)) a := by exact .inl ⟨by kernel_rfl, fun w9 hS => by kernel_rfl⟩) : wpAnyH P md ops Q S (fuel + 1) listed a w := wpAnyH_take hi hs hf hr hQ hy hS h
theorem Zu {v0 : Value} {p : Prop} {G : Value -> Prop} (h : p) (k : p -> G v0) : ∃ v, Ending.returned v0 = Ending.returned v /\ p /\ G v := ⟨v0, rfl, h, k h⟩
theorem Zd {P : Program} {ops : Array Oper} {Q : Exit -> Act -> World -> Prop} {id : Nat} {a : Act} {w : World} (S : World -> Prop) (hS : S (World.drew w)) (h : S (World.drew w) -> wpAnyH P .any ops Q S ops.size (Array.replicate ops.size false) a (World.drew w)) (hm : P.follows .mixedOrders = true := by kernel_rfl) : (Code.region id ops true).wp P Q a w := wp_region_held hm (h hS)
theorem Zv {w : World} {g : Nat} {t : TypeId} {cs : Array Value} (h : Blok w g t cs) (i : Nat) (v : Value) (e : cs[i]? = some v := by exact rfl) : w.cell? ⟨g, i, none⟩ = some v := (h.cell i).trans e
open Go.RowKit
theorem zef {P : Program} {o : Oper} {a : Act} {w : World} {K : Act -> World -> Prop} {Q : Exit -> Act -> World -> Prop} {f : FuncId} {args : Array Value} {R : Ending -> World -> Prop} (h : (execOp a.eval o).run P w = .ok (.enter f args) w) (hc : Calls P f args w R)
  (hR : ∀ e w', R e w' -> ∃ v, e = .returned v /\ K (a.put o.dst v) w') : o.wp P a w K Q := by
 unfold Oper.wp
 rw [h]
 exact hc.mono (fun e w' he => by obtain ⟨v, rfl, hk⟩ := hR e w' he; exact hk)
theorem zfw {P : Program} {o : Oper} {a : Act} {w : World} {K : Act -> World -> Prop} {Q : Exit -> Act -> World -> Prop} {v : Value} (h : (execOp a.eval o).run P w = .ok (.value v) w) (hk : K (a.put o.dst v) w) : o.wp P a w K Q := by
 unfold Oper.wp
 rw [h]
 exact hk
theorem zdi {P : Program} {md : Region.Mode} {ops : Array Oper} {Q : Exit -> Act -> World -> Prop} {S : World -> Prop} {fuel : Nat} {listed : Array Bool} {a : Act} {w : World} {i : Nat} {o : Oper} {f : FuncId} {args : Array Value} {R : Ending -> World -> Prop}
  (hr : Region.ready md ops listed = [i]) (ho : ops[i]? = some o) (hw : Region.wanted o (yielded ops a.tmps) = true) (h : (execOp a.eval o).run P w = .ok (.enter f args) w) (hc : Calls P f args w R)
  (hR : ∀ e w', R e w' -> ∃ v, e = .returned v /\ S w' /\ wpAnyH P md ops Q S fuel (listed.setIfInBounds i true) (a.put o.dst v) w') : wpAnyH P md ops Q S (fuel + 1) listed a w := by
 refine wpAnyH_all hr (by simp) fun j hj => ?_
 obtain rfl : j = i := by simpa using hj
 refine wpOp_step ho fun K hK => ?_
 rw [if_pos hw]
 exact zef h hc fun e w' he => by obtain ⟨v, h1, h2, h3⟩ := hR e w' he; exact ⟨v, h1, hK _ _ ⟨h2, h3⟩⟩
theorem zat {P : Program} {md : Region.Mode} {ops : Array Oper} {Q : Exit -> Act -> World -> Prop} {S : World -> Prop} {fuel : Nat} {listed : Array Bool} {a : Act} {w : World} {i : Nat} {o : Oper} {v : Value}
  (hr : Region.ready md ops listed = [i]) (ho : ops[i]? = some o) (hw : Region.wanted o (yielded ops a.tmps) = true) (h : (execOp a.eval o).run P w = .ok (.value v) w) (hS : S w)
  (hk : wpAnyH P md ops Q S fuel (listed.setIfInBounds i true) (a.put o.dst v) w) : wpAnyH P md ops Q S (fuel + 1) listed a w := by
 refine wpAnyH_all hr (by simp) fun j hj => ?_
 obtain rfl : j = i := by simpa using hj
 refine wpOp_step ho fun K hK => ?_
 rw [if_pos hw]
 exact zfw h (hK _ _ ⟨hS, hk⟩)
theorem zcd {P : Program} {md : Region.Mode} {ops : Array Oper} {Q : Exit -> Act -> World -> Prop} {S S' : World -> Prop} (h : ∀ w, S' w -> S w) : ∀ (fuel : Nat) (listed : Array Bool) (a : Act) (w : World), wpAnyH P md ops Q S' fuel listed a w -> wpAnyH P md ops Q S fuel listed a w
 | 0, _, _, _, H => H
 | n + 1, _, _, _, H => ⟨H.1, fun i hi => wpOp_mono (fun _ _ h3 => ⟨h _ h3.1, zcd h n _ _ _ h3.2⟩) (H.2 i hi)⟩
theorem Zc {P : Program} {md : Region.Mode} {ops : Array Oper} {Q : Exit -> Act -> World -> Prop} {S : World -> Prop} (i : Nat) (f : FuncId) (args : Array Value) {fuel : Nat} {listed : Array Bool} {a : Act} {w : World} {o : Oper} {R : Ending -> World -> Prop} (hc : Calls P f args w R)
  (hR : ∀ e w', R e w' -> ∃ v, e = .returned v /\ S w' /\ wpAnyH P md ops Q S fuel (listed.setIfInBounds i true) (a.put o.dst v) w') (ho : ops[i]? = some o := by exact rfl) (hr : Region.ready md ops listed = [i] := by kernel_rfl)
  (hw : Region.wanted o (yielded ops a.tmps) = true := by kernel_rfl) (h : (execOp a.eval o).run P w = .ok (.enter f args) w := by kernel_rfl) : wpAnyH P md ops Q S (fuel + 1) listed a w := zdi hr ho hw h hc hR
open Go.RowKit
theorem za8 {P : Program} {md : Region.Mode} {ops : Array Oper} {Q : Exit -> Act -> World -> Prop} {S : World -> Prop} {fuel : Nat} {listed : Array Bool} {a : Act} {w : World} {i j : Nat}
  (hr : Region.ready md ops listed = [i, j])
  (hi : wpOp P ops Q i (fun a' w' => S w' /\ wpAnyH P md ops Q S fuel (listed.setIfInBounds i true) a' w') a w)
  (hj : wpOp P ops Q j (fun a' w' => S w' /\ wpAnyH P md ops Q S fuel (listed.setIfInBounds j true) a' w') a w) : wpAnyH P md ops Q S (fuel + 1) listed a w := by
 refine wpAnyH_all hr (by simp) fun k hk => ?_
 simp only [List.mem_cons, List.not_mem_nil, or_false] at hk
 rcases hk with rfl | rfl
 ·exact hi
 ·exact hj
theorem zaf {P : Program} {md : Region.Mode} {ops : Array Oper} {Q : Exit -> Act -> World -> Prop} {S : World -> Prop} {fuel : Nat} {listed : Array Bool} {a : Act} {w : World} {i : Nat}
  (hr : Region.ready md ops listed = [i])
  (hi : wpOp P ops Q i (fun a' w' => S w' /\ wpAnyH P md ops Q S fuel (listed.setIfInBounds i true) a' w') a w) : wpAnyH P md ops Q S (fuel + 1) listed a w := by
 refine wpAnyH_all hr (by simp) fun k hk => ?_
 obtain rfl : k = i := by simpa using hk
 exact hi
theorem zam {P : Program} {ops : Array Oper} {Q : Exit -> Act -> World -> Prop} {i : Nat} {o : Oper} {K : Act -> World -> Prop} {a : Act} {w w' : World} {v : Value} (ho : ops[i]? = some o) (hw : Region.wanted o (yielded ops a.tmps) = true)
  (h : (execOp a.eval o).run P w = .ok (.value v) w') (hk : K (a.put o.dst v) w') : wpOp P ops Q i K a w := by
 refine wpOp_step ho fun K' hK' => ?_
 rw [if_pos hw]
 unfold Oper.wp
 rw [h]
 exact hK' _ _ hk
theorem zah {P : Program} {ops : Array Oper} {Q : Exit -> Act -> World -> Prop} {i : Nat} {o : Oper} {K : Act -> World -> Prop} {a : Act} {w w' : World} (ho : ops[i]? = some o) (hw : Region.wanted o (yielded ops a.tmps) = true)
  (h : (execOp a.eval o).run P w = .ok .skip w') (hk : K (a.put o.dst undef) w') : wpOp P ops Q i K a w := by
 refine wpOp_step ho fun K' hK' => ?_
 rw [if_pos hw]
 unfold Oper.wp
 rw [h]
 exact hK' _ _ hk
theorem zbo {P : Program} {ops : Array Oper} {Q : Exit -> Act -> World -> Prop} {i : Nat} {o : Oper} {K : Act -> World -> Prop} {a : Act} {w : World} {f : FuncId} {args : Array Value} {R : Ending -> World -> Prop} (ho : ops[i]? = some o) (hw : Region.wanted o (yielded ops a.tmps) = true)
  (h : (execOp a.eval o).run P w = .ok (.enter f args) w) (hc : Calls P f args w R) (hR : ∀ e w', R e w' -> ∃ v, e = .returned v /\ K (a.put o.dst v) w') : wpOp P ops Q i K a w := by
 refine wpOp_step ho fun K' hK' => ?_
 rw [if_pos hw]
 exact zef h hc fun e w' he => by obtain ⟨v, h1, h2⟩ := hR e w' he; exact ⟨v, h1, hK' _ _ h2⟩
theorem zc7 (t : Array Value) (df : List _) (d : Nat) (v : Value) : Act.put ⟨t, df⟩ (some d) v = ⟨t.setIfInBounds d v, df⟩ := rfl
theorem ztx (a : Act) (v : Value) : Act.put a none v = a := rfl
open Go.RowKit
end Go.Proofs.YtijkbflimbffmaaGreat
