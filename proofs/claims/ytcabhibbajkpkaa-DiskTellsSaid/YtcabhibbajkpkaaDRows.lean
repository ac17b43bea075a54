/-
  Files where they lie, slices of files, disks; what comes back; boxes of disks and of files.
-/
import Derived.Test.YtcabhibbajkpkaaBytes
import Derived.Test.YtcabhibbajkpkaaDMath
import Derived.Test.YtcabhibbajkpkaaReg
import Derived.Deep.AppendLies
import Derived.Laws.BitsLemmas
namespace Go.Proofs.Ytcabhibbajkpkaa
open Go.RowKit

theorem wrap_i64_small {x : Int} (h0 : -9223372036854775808 ≤ x) (h1 : x ≤ 9223372036854775807) : IntKind.i64.wrap x = x := by
  rw [IntKind.wrap_i64]; omega
/-- A file where it lies: its number, its bytes' address, how many, and room, its bytes, how many are sure. -/
structure FP where
  no : Int
  a : Option Addr
  n : Nat
  c : Nat
  B : List Int
  s : Int
def FP.cells (x : FP) : List Value := [.int .i64 x.no, .slice x.a x.n x.c, .int .i64 x.s]
def FP.file (x : FP) : D.F := (x.no, x.B, x.s)
def FP.flat (xs : List FP) : List Value := xs.flatMap FP.cells
def FP.files (xs : List FP) : List D.F := xs.map FP.file
/-- It reads as its bytes. -/
def FP.ok (w : World) (x : FP) : Prop := x.B.length = x.n ∧ RowIn .u8 w x.a x.c x.B ∧ (x.a = none → x.n = 0 ∧ x.c = 0)
theorem FP.flat_append (xs ys : List FP) : FP.flat (xs ++ ys) = FP.flat xs ++ FP.flat ys := by simp [FP.flat]
theorem FP.files_append (xs ys : List FP) : FP.files (xs ++ ys) = FP.files xs ++ FP.files ys := by simp [FP.files]
theorem FP.files_len (xs : List FP) : (FP.files xs).length = xs.length := by simp [FP.files]
theorem FP.files_take (xs : List FP) (k : Nat) : FP.files (xs.take k) = (FP.files xs).take k := by simp [FP.files, List.map_take]
theorem FP.files_drop (xs : List FP) (k : Nat) : FP.files (xs.drop k) = (FP.files xs).drop k := by simp [FP.files, List.map_drop]
theorem FP.files_at {xs : List FP} {k : Nat} {x : FP} (h : xs[k]? = some x) : (FP.files xs).getD k D.nof = FP.file x := by simp [FP.files, h]
theorem FP.flat_len (xs : List FP) : (FP.flat xs).length = xs.length * 3 := by
  induction xs with
  | nil => rfl
  | cons x xs ih => simp [FP.flat, FP.cells] at ih ⊢; omega
theorem FP.flat_at : ∀ (xs : List FP) (i : Nat) (x : FP), xs[i]? = some x → (FP.flat xs)[i * 3]? = some (.int .i64 x.no) ∧ (FP.flat xs)[i * 3 + 1]? = some (.slice x.a x.n x.c) ∧ (FP.flat xs)[i * 3 + 2]? = some (.int .i64 x.s)
  | [], _, _, h => by simp at h
  | y :: xs, 0, x, h => by
    obtain rfl : y = x := by simpa using h
    exact ⟨rfl, rfl, rfl⟩
  | y :: xs, i + 1, x, h => by
    have := FP.flat_at xs i x (by simpa using h)
    have e : (i + 1) * 3 = i * 3 + 3 := by omega
    rw [e]
    exact this
theorem FP.flat_one (xs : List FP) : ∀ u ∈ FP.flat xs, u.oneCell' = true := by
  intro u hu
  obtain ⟨x, _, hx⟩ := List.mem_flatMap.1 hu
  simp only [FP.cells, List.mem_cons, List.not_mem_nil, or_false] at hx
  rcases hx with rfl | rfl | rfl <;> rfl
theorem FP.ok.below {w w' : World} {x : FP} (h : FP.ok w x) (hb : Below w.heap.size w w') : FP.ok w' x := ⟨h.1, h.2.1.below hb, h.2.2⟩

/-- What a slice of files reads as. -/
def FilesIn (w : World) (a : Option Addr) (cap : Nat) (xs : List FP) : Prop :=
  (xs.length ≤ cap ∧ cap ≤ maxLen) ∧ (∀ x ∈ xs, FP.ok w x) ∧ (xs = [] ∨ ∃ b off, a = some ⟨b, off, none⟩ ∧ b < w.heap.size ∧ ∀ i u, (FP.flat xs)[i]? = some u → w.cell? ⟨b, off + i, none⟩ = some u)
theorem FilesIn.below {w w' : World} {a : Option Addr} {cap : Nat} {xs : List FP} (h : FilesIn w a cap xs) (hb : Below w.heap.size w w') : FilesIn w' a cap xs := by
  refine ⟨h.1, fun x hx => (h.2.1 x hx).below hb, ?_⟩
  rcases h.2.2 with h0 | ⟨b, off, rfl, hlt, hc⟩
  · exact .inl h0
  · exact .inr ⟨b, off, rfl, Nat.lt_of_lt_of_le hlt hb.size, fun i u hi => (hb.cell (p := ⟨b, off + i, none⟩) hlt).trans (hc i u hi)⟩
theorem FilesIn.nil (w : World) (a : Option Addr) {cap : Nat} (h : cap ≤ maxLen) : FilesIn w a cap [] := ⟨⟨by simp, h⟩, by simp, .inl rfl⟩
/-- The i-th file. -/
theorem FilesIn.at {w : World} {a : Option Addr} {cap i : Nat} {xs : List FP} (h : FilesIn w a cap xs) (hi : i < xs.length) :
    ∃ b off no a' n c B s, a = some ⟨b, off, none⟩ ∧ b < w.heap.size ∧ xs[i]? = some ⟨no, a', n, c, B, s⟩ ∧ w.cell? ⟨b, off + i * 3, none⟩ = some (.int .i64 no) ∧ w.cell? ⟨b, off + i * 3 + 1, none⟩ = some (.slice a' n c) ∧ w.cell? ⟨b, off + i * 3 + 2, none⟩ = some (.int .i64 s) ∧ FP.ok w ⟨no, a', n, c, B, s⟩ := by
  rcases h.2.2 with rfl | ⟨b, off, rfl, hlt, hc⟩
  · simp at hi
  · have hx := List.getElem?_eq_getElem hi
    obtain ⟨f1, f2, f3⟩ := FP.flat_at xs i _ hx
    exact ⟨b, off, _, _, _, _, _, _, rfl, hlt, hx, hc _ _ f1, hc _ _ f2, hc _ _ f3, h.2.1 _ (List.getElem_mem hi)⟩
theorem own_files {w : World} {B e n : Nat} {v : Value} {xs : List FP} (h : w.ownsRow B e 3 v n (FP.flat xs)) (hn : xs.length = n) (ho : ∀ x ∈ xs, FP.ok w x) : ∃ a cap, v = .slice a n cap ∧ FilesIn w a cap xs ∧ (a = none → n = 0 ∧ cap = 0) := by
  rcases h.2 with ⟨rfl, h0⟩ | ⟨g, cap, cur, rfl, _, hg, hle, hm, _⟩
  · obtain rfl : xs = [] := List.eq_nil_of_length_eq_zero (by omega)
    exact ⟨none, 0, by rw [h0], FilesIn.nil w none (by simp [maxLen]), fun _ => ⟨h0, rfl⟩⟩
  · refine ⟨_, cap, rfl, ⟨⟨by omega, hm⟩, ho, .inr ⟨g, 0, rfl, (Array.getElem?_eq_some_iff.1 hg).1, fun i u hi => ?_⟩⟩, fun h => by cases h⟩
    have c1 := h.cells (g := g) rfl _ _ hi
    rwa [WideShapes.add_plain] at c1

/-- A disk's files, as its slice. -/
def DiskIn (w : World) (a : Option Addr) (n c : Nat) (xs : List FP) : Prop := xs.length = n ∧ FilesIn w a c xs ∧ (a = none → n = 0 ∧ c = 0)
theorem DiskIn.below {w w' : World} {a : Option Addr} {n c : Nat} {xs : List FP} (h : DiskIn w a n c xs) (hb : Below w.heap.size w w') : DiskIn w' a n c xs := ⟨h.1, h.2.1.below hb, h.2.2⟩
theorem DiskIn.caps {w : World} {a : Option Addr} {n c : Nat} {xs : List FP} (h : DiskIn w a n c xs) : n ≤ c ∧ c ≤ maxLen := by have := h.2.1.1; rw [h.1] at this; exact this
theorem DiskIn.empty (w : World) : DiskIn w none 0 0 [] := ⟨rfl, FilesIn.nil w none (by simp [maxLen]), fun _ => ⟨rfl, rfl⟩⟩

/-- Neither the slice nor any file's bytes lie in block b. -/
def Far (b : Nat) (a : Option Addr) (xs : List FP) : Prop := (∀ g off, a = some ⟨g, off, none⟩ → xs ≠ [] → g ≠ b) ∧ ∀ x ∈ xs, x.B = [] ∨ ∀ y, x.a = some y → y.block ≠ b
theorem Far.nil (b : Nat) (a : Option Addr) : Far b a [] := ⟨fun _ _ _ h => absurd rfl h, by simp⟩
theorem DiskIn.far {w : World} {a : Option Addr} {n c b : Nat} {xs : List FP} (h : DiskIn w a n c xs) (hb : w.heap.size ≤ b) : Far b a xs := by
  refine ⟨?_, fun x hx => ?_⟩
  · rintro g off rfl h0 rfl
    rcases h.2.1.2.2 with h1 | ⟨g', off', he, hlt, _⟩
    · exact h0 h1
    · cases he; omega
  · rcases (h.2.1.2.1 x hx).2.1.2.2 with h1 | ⟨g', off', he, hlt, _⟩
    · exact .inl h1
    · refine .inr ?_
      intro y hy hyb
      rw [he] at hy
      cases hy
      have : g' = b := hyb
      omega
/-- What comes back as a disk: P tells in which old blocks nothing of it lies. -/
def RetD (P : Nat → Prop) (d : D.T) (w : World) (e : Ending) (w' : World) : Prop :=
  ∃ a n c xs, e = .returned (.agg #[.int .i64 d.1, .slice a n c]) ∧ Hid (DiskIn w' a n c xs) ∧ Hid (FP.files xs = d.2) ∧ Hid (∀ b, b < w.heap.size → P b → Far b a xs) ∧ Below w.heap.size w w'
/-- A disk, and an error. -/
def RetE (P : Nat → Prop) (r : D.T × Int) (w : World) (e : Ending) (w' : World) : Prop :=
  ∃ a n c xs, e = .returned (.tuple #[.agg #[.int .i64 r.1.1, .slice a n c], .int .i64 r.2]) ∧ Hid (DiskIn w' a n c xs) ∧ Hid (FP.files xs = r.1.2) ∧ Hid (∀ b, b < w.heap.size → P b → Far b a xs) ∧ Below w.heap.size w w'
def any : Nat → Prop := fun _ => True

theorem info_file : (Try.prog.info? 43).map (fun i => (i.zero, i.size, i.bytes)) = some (some (.agg #[.int .i64 0, .slice none 0 0, .int .i64 0]), 3, 40) := by kernel_rfl
theorem info_disk : (Try.prog.info? 24).map (·.size) = some 2 := by kernel_rfl

/-- The world behind a disk's being boxed, and behind one's being made. -/
def dbox (w : World) (k : Int) (a : Option Addr) (n c : Nat) : World := w.alloc (.cells #[.int .i64 k, .slice a n c] 24)
theorem dbox_below (w : World) (k : Int) (a : Option Addr) (n c : Nat) : Below w.heap.size w (dbox w k a n c) := (Below.refl _ w).alloc (Nat.le_refl _) _
theorem dbox_size (w : World) (k : Int) (a : Option Addr) (n c : Nat) : (dbox w k a n c).heap.size = w.heap.size + 1 := by simp [dbox]
theorem dbox_blok (w : World) (k : Int) (a : Option Addr) (n c : Nat) : Blok (dbox w k a n c) w.heap.size 24 #[.int .i64 k, .slice a n c] := Blok.new w _ _
def fbox (w : World) (no : Int) (a : Option Addr) (n c : Nat) (s : Int) : World := w.alloc (.cells #[.int .i64 no, .slice a n c, .int .i64 s] 43)
theorem fbox_below (w : World) (no : Int) (a : Option Addr) (n c : Nat) (s : Int) : Below w.heap.size w (fbox w no a n c s) := (Below.refl _ w).alloc (Nat.le_refl _) _
theorem fbox_size (w : World) (no : Int) (a : Option Addr) (n c : Nat) (s : Int) : (fbox w no a n c s).heap.size = w.heap.size + 1 := by simp [fbox]
theorem fbox_blok (w : World) (no : Int) (a : Option Addr) (n c : Nat) (s : Int) : Blok (fbox w no a n c s) w.heap.size 43 #[.int .i64 no, .slice a n c, .int .i64 s] := Blok.new w _ _
theorem dk0 {w : World} {g : Nat} {k : Int} {v : Value} (h : Blok w g 24 #[.int .i64 k, v]) : w.cell? ⟨g, 0, none⟩ = some (.int .i64 k) := h.cell 0
theorem dk1 {w : World} {g : Nat} {u v : Value} (h : Blok w g 24 #[u, v]) : w.cell? ⟨g, 1, none⟩ = some v := h.cell 1
theorem fk0 {w : World} {g : Nat} {x y z : Value} (h : Blok w g 43 #[x, y, z]) : w.cell? ⟨g, 0, none⟩ = some x := h.cell 0
theorem fk1 {w : World} {g : Nat} {x y z : Value} (h : Blok w g 43 #[x, y, z]) : w.cell? ⟨g, 1, none⟩ = some y := h.cell 1
theorem fk2 {w : World} {g : Nat} {x y z : Value} (h : Blok w g 43 #[x, y, z]) : w.cell? ⟨g, 2, none⟩ = some z := h.cell 2
/-- Two boxes: the parameter's, the result's. -/
def dbn (w : World) (k : Int) (a : Option Addr) (n c : Nat) : World := dbox (dbox w k a n c) 0 none 0 0
theorem dbn_below (w : World) (k : Int) (a : Option Addr) (n c : Nat) : Below w.heap.size w (dbn w k a n c) := (dbox_below w k a n c).trans ((dbox_below _ 0 none 0 0).mono (dbox_below w k a n c).size)
theorem dbn_size (w : World) (k : Int) (a : Option Addr) (n c : Nat) : (dbn w k a n c).heap.size = w.heap.size + 2 := by simp [dbn, dbox]
theorem dbn_arg (w : World) (k : Int) (a : Option Addr) (n c : Nat) : Blok (dbn w k a n c) w.heap.size 24 #[.int .i64 k, .slice a n c] := (dbox_blok w k a n c).alloc _
theorem dbn_res (w : World) (k : Int) (a : Option Addr) (n c : Nat) : Blok (dbn w k a n c) (w.heap.size + 1) 24 #[.int .i64 0, .slice none 0 0] := by
  have := dbox_blok (dbox w k a n c) 0 none 0 0
  rwa [dbox_size] at this
theorem Blok.on {w w' : World} {g : Nat} {t : TypeId} {cs : Array Value} (h : Blok w g t cs) (hb : Below w.heap.size w w') : Blok w' g t cs := h.below hb h.lt

/-- The result is a disk in a cell. -/
theorem ret_disk {fn : Func} {p : Tmp} (h : fn.results = #[.cell p 24]) {tmps : Array Value} {w : World} (g : Nat) (k : Int) (a : Option Addr) (n cap : Nat)
    (hp : tmps.getD p undef = .pointer (some ⟨g, 0, none⟩)) (hg : Blok w g 24 #[.int .i64 k, .slice a n cap]) :
    (results fn tmps).run Try.prog w = .ok (.agg #[.int .i64 k, .slice a n cap]) w := by
  have hp' : tmps[p]?.getD undef = .pointer (some ⟨g, 0, none⟩) := by simpa using hp
  have hl := run_loadVar_row (P := Try.prog) w g 24 24 #[.int .i64 k, .slice a n cap] (0, 0) _ hg Try.underlying24 rfl info_disk
  simp [results, h, hp', asAddr, hl]
/-- The results are a disk in a cell, and another value. -/
theorem ret_disk2 {fn : Func} {p u : Tmp} (h : fn.results = #[.cell p 24, .tmp u]) {tmps : Array Value} {w : World} (g : Nat) (k : Int) (a : Option Addr) (n cap : Nat) {x : Value}
    (hp : tmps.getD p undef = .pointer (some ⟨g, 0, none⟩)) (hu : tmps.getD u undef = x) (hg : Blok w g 24 #[.int .i64 k, .slice a n cap]) :
    (results fn tmps).run Try.prog w = .ok (.tuple #[.agg #[.int .i64 k, .slice a n cap], x]) w := by
  have hp' : tmps[p]?.getD undef = .pointer (some ⟨g, 0, none⟩) := by simpa using hp
  have hu' : tmps[u]?.getD undef = x := by simpa using hu
  have hl := run_loadVar_row (P := Try.prog) w g 24 24 #[.int .i64 k, .slice a n cap] (0, 0) _ hg Try.underlying24 rfl info_disk
  simp [results, h, hp', hu', asAddr, hl, Result.andThen]

/-- The result's cell, set. -/
theorem Blok.put {w : World} {g : Nat} {k : Int} {v : Value} (h : Blok w g 24 #[.int .i64 0, .slice none 0 0]) : Blok ((w.setCell ⟨g, 0, none⟩ (.int .i64 k)).setCell ⟨g, 1, none⟩ v) g 24 #[.int .i64 k, v] := by
  simpa using (h.set 0 (.int .i64 k)).set 1 v
theorem cell_set_far {w : World} {b i : Nat} {u : Value} {p : Addr} (hne : p.block ≠ b) : (w.setCell ⟨b, i, none⟩ u).cell? p = w.cell? p := by
  unfold World.cell?
  rw [Below.heap_setCell w ⟨b, i, none⟩ u p.block hne]
theorem row_set {k : IntKind} {w : World} {a : Option Addr} {cap b : Nat} {L : List Int} (h : RowIn k w a cap L) (hne : L = [] ∨ ∀ x, a = some x → x.block ≠ b) (i : Nat) (u : Value) : RowIn k (w.setCell ⟨b, i, none⟩ u) a cap L := by
  refine ⟨h.1, h.2.1, ?_⟩
  rcases hne with h0 | hne
  · exact .inl h0
  rcases h.2.2 with h0 | ⟨g, off, rfl, hg, hc⟩
  · exact .inl h0
  · exact .inr ⟨g, off, rfl, by rw [show (w.setCell ⟨b, i, none⟩ u).heap.size = w.heap.size from (Array.size_modify ..)]; exact hg, fun j hj => (cell_set_far (p := ⟨g, off + j, none⟩) (hne ⟨g, off, none⟩ rfl)).trans (hc j hj)⟩
/-- What lies below a block is not turned by a store in it. -/
theorem DiskIn.set {w : World} {a : Option Addr} {n c : Nat} {xs : List FP} (h : DiskIn w a n c xs) {b : Nat} (hf : Far b a xs) (i : Nat) (u : Value) : DiskIn (w.setCell ⟨b, i, none⟩ u) a n c xs := by
  obtain ⟨hne, hx⟩ := hf
  refine ⟨h.1, ⟨h.2.1.1, fun x hm => ⟨(h.2.1.2.1 x hm).1, row_set (h.2.1.2.1 x hm).2.1 (hx x hm) i u, (h.2.1.2.1 x hm).2.2⟩, ?_⟩, h.2.2⟩
  by_cases h0 : xs = []
  · exact .inl h0
  rcases h.2.1.2.2 with h0 | ⟨g, off, rfl, hg, hc⟩
  · exact .inl h0
  · exact .inr ⟨g, off, rfl, by rw [show (w.setCell ⟨b, i, none⟩ u).heap.size = w.heap.size from (Array.size_modify ..)]; exact hg, fun j v hj => (cell_set_far (p := ⟨g, off + j, none⟩) (hne g off rfl h0)).trans (hc j v hj)⟩
theorem below_store {B : Nat} {w w' : World} {b : Nat} (h : Below B w w') (hb : B ≤ b) (i j : Nat) (u v : Value) : Below B w ((w'.setCell ⟨b, i, none⟩ u).setCell ⟨b, j, none⟩ v) := (h.setCell (p := ⟨b, i, none⟩) hb u).setCell (p := ⟨b, j, none⟩) hb v
theorem RowIn.drew {k : IntKind} {w : World} {a : Option Addr} {cap : Nat} {L : List Int} (h : RowIn k w a cap L) : RowIn k w.drew a cap L := h
end Go.Proofs.Ytcabhibbajkpkaa
