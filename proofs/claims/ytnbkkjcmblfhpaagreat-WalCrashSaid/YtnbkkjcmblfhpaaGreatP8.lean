import Derived.ArgAppend
import Derived.Laws.OwnMore
import Derived.Deep.AppendLies
import Derived.Deep.RegionLaw
import Derived.WalkLawsBesides
import Derived.Deep.RegionWith
import Derived.WalkMore
import Derived.Lib.QuietBelow
import Derived.BigQuiet
import Derived.Test.YtnbkkjcmblfhpaaGreatP7
import Derived.Test.YtnbkkjcmblfhpaaGreatP6
import Derived.Test.YtnbkkjcmblfhpaaGreatP0
import Derived.Test.YtnbkkjcmblfhpaaGreatP5
import Derived.Test.YtnbkkjcmblfhpaaGreatP1
namespace Go.Proofs.YtnbkkjcmblfhpaaGreat
set_option maxHeartbeats 1000000
set_option maxRecDepth 100000
open Go.RowKit
def zus (L : List Int) (p : Int) (w : World) (e : Ending) (w' : World) : Prop :=
 ∃ b s r : Int, e = .returned (.tuple #[.int .i64 b, .int .i64 s, .int .i64 r]) /\ w = w' /\
  Hid ((r ≠ 0 /\ b = 0 /\ s = 0 /\ R.get L p = (r, (0, []), 0)) \/
   (r = 0 /\ ∃ q k n : Nat, p = q /\ b = (q : Int) + 1 + k /\ s = (q : Int) + 1 + k + n + 4 /\ ¬ R.cut (L.drop q) /\ M.head (L.drop q).tail = some ((n : Int), k) /\ n <= 1000 /\ q + 1 + k + n + 4 <= L.length))
theorem zus.no {L : List Int} {p r : Int} {w : World} (hr : r ≠ 0) (h : R.get L p = (r, (0, []), 0)) : zus L p w (.returned (.tuple #[.int .i64 0, .int .i64 0, .int .i64 r])) w :=
 ⟨0, 0, r, rfl, rfl, Zh (.inl ⟨hr, rfl, rfl, h⟩)⟩
theorem zwz (a : Option Addr) (len cap : Nat) (p : Int) (L : List Int) (w : World) (hl : L.length = len) (h : p < 0 \/ (len : Int) < p) :
  Calls Tryz.prog 110 #[.slice a len cap, .int .i64 p] w (zus L p w) := by
 have HG := Zh (R.get_out (L := L) (p := p) (by omega))
 clear hl
 by_cases h0 : p < 0
 ·clear h
  go_enter Tryz.func110, Tryz.ntmps110
  go_wp2
  go_ret3
  exact .no (by decide) HG.out
 ·have h1 : (len : Int) < p := by omega
  clear h
  go_enter Tryz.func110, Tryz.ntmps110
  go_wp2
  go_ret3
  exact .no (by decide) HG.out
theorem zw0 (a : Option Addr) (len cap : Nat) (L : List Int) (w : World) (hl : L.length = len) (h : zfv .u8 w a cap L) (hn : a = none -> len = 0 /\ cap = 0) :
  Calls Tryz.prog 110 #[.slice a len cap, .int .i64 (len : Int)] w (zus L len w) := by
 have HG := Zh (R.get_err (L := L) (p := len) (e := 4) (by omega) (by decide) (R.head_cut (.inl (List.drop_eq_nil_of_le (by omega)))))
 have hcap : len <= cap /\ cap <= maxLen := by have := h.1; omega
 have hml : maxLen <= 9223372036854775807 := by decide
 have h0 : ¬ ((len : Int) < 0) := by omega
 have HT : Hid (decide (R.cut []) = true) := Zh (by decide)
 clear hl h
 cases a with
 | none =>
  obtain ⟨rfl, rfl⟩ := hn rfl
  go_enter Tryz.func110, Tryz.ntmps110
  go_wp2_with fail
  refine (zt9 _ 0 0 [] true _ rfl (zvn _ _ (by simp [maxLen])) HT.out).mono ?_
  rintro e w' ⟨rfl, rfl⟩
  go_wp2
  go_ret3
  exact .no (by decide) HG.out
 | some x =>
  clear hn
  by_cases hc : len = cap
  ·subst hc
   go_enter Tryz.func110, Tryz.ntmps110
   go_wp2_with fail
   refine (zt9 _ 0 _ [] true _ rfl (zvn _ _ (by simp [maxLen])) HT.out).mono ?_
   rintro e w' ⟨rfl, rfl⟩
   go_wp2
   go_ret3
   exact .no (by decide) HG.out
  ·go_enter Tryz.func110, Tryz.ntmps110
   go_wp2_with fail
   refine (zt9 _ 0 _ [] true _ rfl (zvn _ _ (by omega)) HT.out).mono ?_
   rintro e w' ⟨rfl, rfl⟩
   go_wp2
   go_ret3
   exact .no (by decide) HG.out
theorem zxk (b off len cap q : Nat) (L : List Int) (w : World) (hl : L.length = len) (h : zfv .u8 w (some ⟨b, off, none⟩) cap L) (hq : q < len) :
  Calls Tryz.prog 110 #[.slice (some ⟨b, off, none⟩) len cap, .int .i64 (q : Int)] w (zus L q w) := by
 have hcap : len <= cap /\ cap <= maxLen := by have := h.1; omega
 have hml : maxLen <= 9223372036854775807 := by decide
 have h0 : ¬ ((q : Int) < 0) := by omega
 have h1 : decide ((len : Int) < (q : Int)) = false := by simp; omega
 have hqc : ¬ q = cap := by omega
 have hq1 : q <= len := by omega
 have HD := Zh (zwm h (q := q) (by omega))
 have LD : Hid ((L.drop q).length = len - q) := Zh (by simp; omega)
 have HL := Zh hl
 have HR := Zh h
 have HT : Hid ((L.drop q).tail = L.drop (q + 1)) := Zh (by rw [List.tail_drop])
 by_cases hc : R.cut (L.drop q)
 ·have HG := Zh (R.get_err (L := L) (p := q) (e := 4) (by omega) (by decide) (R.head_cut hc))
  have HC := Zh (decide_eq_true hc)
  clear hl h hc
  go_enter Tryz.func110, Tryz.ntmps110
  go_wp2_with fail
  refine (zt9 _ (len - q) _ (L.drop q) true _ LD.out HD.out HC.out).mono ?_
  rintro e w' ⟨rfl, rfl⟩
  go_wp2
  go_ret3
  exact .no (by decide) HG.out
 ·have HNC := Zh hc
  have HC := Zh (decide_eq_false hc)
  cases hm : M.head (L.drop q).tail with
  | none =>
   have HG := Zh (R.get_err (L := L) (p := q) (e := 2) (by omega) (by decide) (R.head_none hc hm))
   rw [HT.out] at hm
   have HM := Zh (zum (q := q + 1) hm)
   clear hl h hc hm
   go_enter Tryz.func110, Tryz.ntmps110
   go_wp2_with fail
   refine (zt9 _ (len - q) _ (L.drop q) false _ LD.out HD.out HC.out).mono ?_
   rintro e w' ⟨rfl, rfl⟩
   go_wp2_with fail
   refine (zn5 (p := (q : Int) + 1) HM.out (zol _ len _ _ L _ HL.out HR.out)).mono ?_
   rintro e w' ⟨rfl, rfl⟩
   go_wp2
   go_ret3
   exact .no (by decide) HG.out
  | some x =>
   obtain ⟨n, k⟩ := x
   have hi := (zoc (fun c hc => zo9 h.2.1 c (List.mem_of_mem_drop (List.mem_of_mem_tail hc))) hm)
   have hk : q + 1 + k <= len := by have := hi.2.2.2.1; simp at this; omega
   have hn0 := hi.1.1
   have hn1 := hi.1.2
   obtain ⟨m, rfl⟩ : ∃ m : Nat, n = m := ⟨n.toNat, by omega⟩
   have HM : Hid (M.get L ((q : Int) + 1) = ((m : Int), (q : Int) + 1 + k)) := Zh (by
    have := zu4 (L := L) (q := q + 1) (n := m) (e := k) (by rw [<- HT.out]; exact hm)
    simpa using this)
   have hneg : ¬ ((q : Int) + 1 + k < 0) := by omega
   clear hi
   by_cases hbig : 1000 < (m : Int)
   ·have HG := Zh (R.get_err (L := L) (p := q) (e := 2) (by omega) (by decide) (R.head_big hc hm hbig))
    clear hl h hc hm
    go_enter Tryz.func110, Tryz.ntmps110
    go_wp2_with fail
    refine (zt9 _ (len - q) _ (L.drop q) false _ LD.out HD.out HC.out).mono ?_
    rintro e w' ⟨rfl, rfl⟩
    go_wp2_with fail
    refine (zn5 (p := (q : Int) + 1) HM.out (zol _ len _ _ L _ HL.out HR.out)).mono ?_
    rintro e w' ⟨rfl, rfl⟩
    go_wp2
    go_ret3
    exact .no (by decide) HG.out
   ·have hm1 : m <= 1000 := by omega
    have hd1 : decide (1000 < (m : Int)) = false := by simp; omega
    have HM0 := Zh hm
    by_cases hf : len < q + 1 + k + m + 4
    ·have HG := Zh (R.get_err (L := L) (p := q) (e := 4) (by omega) (by decide) (R.head_few hc hm hbig (by simp; omega)))
     have hf2 : (len : Int) - ((q : Int) + 1 + k) < (m : Int) + 4 := by omega
     clear hl h hc hm
     go_enter Tryz.func110, Tryz.ntmps110
     go_wp2_with fail
     refine (zt9 _ (len - q) _ (L.drop q) false _ LD.out HD.out HC.out).mono ?_
     rintro e w' ⟨rfl, rfl⟩
     go_wp2_with fail
     refine (zn5 (p := (q : Int) + 1) HM.out (zol _ len _ _ L _ HL.out HR.out)).mono ?_
     rintro e w' ⟨rfl, rfl⟩
     go_wp2
     go_ret3
     exact .no (by decide) HG.out
    ·have hf2 : decide ((len : Int) - ((q : Int) + 1 + k) < (m : Int) + 4) = false := by simp; omega
     have hfl : q + 1 + k + m + 4 <= len := by omega
     clear hl h hc hm
     go_enter Tryz.func110, Tryz.ntmps110
     go_wp2_with fail
     refine (zt9 _ (len - q) _ (L.drop q) false _ LD.out HD.out HC.out).mono ?_
     rintro e w' ⟨rfl, rfl⟩
     go_wp2_with fail
     refine (zn5 (p := (q : Int) + 1) HM.out (zol _ len _ _ L _ HL.out HR.out)).mono ?_
     rintro e w' ⟨rfl, rfl⟩
     go_wp2
     go_ret3
     exact ⟨_, _, _, rfl, rfl, Zh (.inr ⟨rfl, q, k, m, rfl, rfl, rfl, HNC.out, HM0.out, hm1, by rw [HL.out]; exact hfl⟩)⟩
theorem zw1 (a : Option Addr) (len cap : Nat) (p : Int) (L : List Int) (w : World) (hl : L.length = len) (h : zfv .u8 w a cap L) (hn : a = none -> len = 0 /\ cap = 0) :
  Calls Tryz.prog 110 #[.slice a len cap, .int .i64 p] w (zus L p w) := by
 by_cases hp : p < 0 \/ (len : Int) < p
 ·exact zwz a len cap p L w hl hp
 ·obtain ⟨q, rfl⟩ : ∃ q : Nat, p = q := ⟨p.toNat, by omega⟩
  by_cases hq : q = len
  ·subst hq
   exact zw0 a q cap L w hl h hn
  ·obtain ⟨b, off, rfl, _⟩ := zl4 h (i := q) (by omega)
   exact zxk b off len cap q L w hl h (by omega)
end Go.Proofs.YtnbkkjcmblfhpaaGreat
namespace Go.Proofs.YtnbkkjcmblfhpaaGreat
set_option maxHeartbeats 200000
set_option maxRecDepth 100000
open Go.RowKit
def zvt (L : List Int) (p : Int) (w : World) (e : Ending) (w' : World) : Prop :=
 ∃ a n cap, e = .returned (.tuple #[.agg #[.int .i64 (R.get L p).2.1.1, .slice a n cap], .int .i64 (R.get L p).2.2, .int .i64 (R.get L p).1]) /\ Hid ((R.get L p).2.1.2.length = n) /\ Hid (zfv .u8 w' a cap (R.get L p).2.1.2) /\
  Hid (a = none -> n = 0 /\ cap = 0) /\ Hid (InB w' a) /\ Below w.heap.size w w'
theorem zvt.no {L : List Int} {p r : Int} {w w' : World} (h : R.get L p = (r, (0, []), 0)) (hb : Below w.heap.size w w') : zvt L p w (.returned (.tuple #[.agg #[.int .i64 0, .slice none 0 0], .int .i64 0, .int .i64 r])) w' :=
 ⟨none, 0, 0, by rw [h], by rw [h]; exact Zh rfl, by rw [h]; exact Zh (zv6 _ _), Zh (fun _ => ⟨rfl, rfl⟩), Zh (InB.none _), hb⟩
theorem zvt.yes {L B : List Int} {p k s : Int} {a : Option Addr} {n cap : Nat} {w w' : World} (h : R.get L p = (0, (k, B), s)) (hl : B.length = n) (hr : zfv .u8 w' a cap B) (hn : a = none -> n = 0 /\ cap = 0) (hi : InB w' a) (hb : Below w.heap.size w w') :
  zvt L p w (.returned (.tuple #[.agg #[.int .i64 k, .slice a n cap], .int .i64 s, .int .i64 0])) w' :=
 ⟨a, n, cap, by rw [h], by rw [h]; exact Zh hl, by rw [h]; exact Zh hr, Zh hn, Zh hi, hb⟩
theorem R.opened {L O : List Int} {q k n E : Nat} (hc : ¬ R.cut (L.drop q)) (hm : M.head (L.drop q).tail = some ((n : Int), k)) (hn : n <= 1000) (hE : E = q + 1 + k + n + 4) (hl : E <= L.length) (hO : C.open ((L.take E).drop q) = some O) :
  R.get L q = (0, (O.getD 0 0, (O.take (1 + k + n)).drop (1 + k)), (E : Int)) /\ O.length = 1 + k + n /\ ((O.take (1 + k + n)).drop (1 + k)).length = n := by
 have hD : (L.take E).drop q = (L.drop q).take (1 + k + n + 4) := by rw [List.drop_take]; congr 1; omega
 rw [hD] at hO
 have hsum := C.open_some.1 hO
 have hlen := congrArg List.length hsum
 rw [C.seal_len, List.length_take, List.length_drop, Nat.min_eq_left (by omega)] at hlen
 have hOL : O = (L.drop q).take (1 + k + n) := by
  have := congrArg (List.take (1 + k + n)) hsum
  rw [List.take_take, Nat.min_eq_left (by omega)] at this
  rw [<- this, C.seal, List.take_left' (by omega)]
 refine ⟨?_, by omega, by simp; omega⟩
 have := R.get_ok (L := L) (p := q) (by omega) (R.head_yes hc hm (by omega) (by simp; omega) (by rw [Int.toNat_natCast, hO]; rfl))
 rw [this, Int.toNat_natCast]
 have e1 : (L.drop q).headD 0 = O.getD 0 0 := by
  rw [hOL]
  cases hq : L.drop q with
  | nil => simp
  | cons d t => rw [show 1 + k + n = (k + n) + 1 by omega]; simp
 have e2 : ((L.drop q).drop (1 + k)).take n = (O.take (1 + k + n)).drop (1 + k) := by
  rw [hOL, List.take_take, Nat.min_self, List.drop_take]; congr 1; omega
 rw [e1, e2]
 congr 2
 omega
theorem R.shut {L : List Int} {q k n E : Nat} (hc : ¬ R.cut (L.drop q)) (hm : M.head (L.drop q).tail = some ((n : Int), k)) (hn : n <= 1000) (hE : E = q + 1 + k + n + 4) (hl : E <= L.length) (hO : C.open ((L.take E).drop q) = none) :
  R.get L q = (3, (0, []), 0) := by
 have hD : (L.take E).drop q = (L.drop q).take (1 + k + n + 4) := by rw [List.drop_take]; congr 1; omega
 rw [hD] at hO
 exact R.get_err (by omega) (by decide) (R.head_sum hc hm (by omega) (by simp; omega) (by rw [Int.toNat_natCast, hO]; rfl))
theorem zvj {x : Int} (h0 : -9223372036854775808 <= x) (h1 : x <= 9223372036854775807) : IntKind.i64.wrap x = x := by
 simp [IntKind.wrap, IntKind.bits, IntKind.signed]; omega
theorem zv7 {o : Oper} {ρ : Operand -> Value} {x lo hi mx : Operand} {a : Option Addr} {len cap l h m : Nat} (ho : o.op = .slice 51 x (some lo) (some hi) (some mx)) (hx : ρ x = .slice a len cap) (hlo : ρ lo = .int .i64 (l : Int)) (hhi : ρ hi = .int .i64 (h : Int)) (hmx : ρ mx = .int .i64 (m : Int))
  (h1 : l <= h) (h2 : h <= m) (h3 : m <= cap) (w : World) : (execOp ρ o).run Tryz.prog w = .ok (.value (.slice (sl a l m) (h - l) (m - l))) w := by
 unfold execOp
 simp only [ho, Option.map_some, hx, hlo, hhi, hmx, Sem.run_bind, zww a h1 h2 h3 w, Result.andThen, Sem.run_pure]
def zua (w : World) : World := w.alloc (.cells #[.int .i64 0, .slice none 0 0] 68)
theorem zub (w : World) : Below w.heap.size w (zua w) := (Below.refl _ w).alloc (Nat.le_refl _) _
theorem zv8 (w : World) {w' : World} (h : Below (zua w).heap.size (zua w) w') : w'.cell? ⟨w.heap.size, 0, none⟩ = some (.int .i64 0) :=
 (h.cell (p := ⟨w.heap.size, 0, none⟩) (by simp [zua])).trans ((Blok.new w _ _).cell 0)
theorem zv9 (w : World) {w' : World} (h : Below (zua w).heap.size (zua w) w') : w'.cell? ⟨w.heap.size, 1, none⟩ = some (.slice none 0 0) :=
 (h.cell (p := ⟨w.heap.size, 1, none⟩) (by simp [zua])).trans ((Blok.new w _ _).cell 1)
theorem zuw (w : World) {w' : World} (h : Below (zua w).heap.size (zua w) w') (i : Nat) : w'.frozen? ⟨w.heap.size, i, none⟩ = false :=
 Blok.frozen ((Blok.new w 68 #[.int .i64 0, .slice none 0 0]).below h (by simp [zua])) i
theorem zwa (w : World) {w' : World} (h : Below (zua w).heap.size (zua w) w') : Blok w' w.heap.size 68 #[.int .i64 0, .slice none 0 0] :=
 (Blok.new w 68 #[.int .i64 0, .slice none 0 0]).below h (by simp [zua])
theorem zx6 : (Tryz.prog.info? 68).map (·.size) = some 2 := by kernel_rfl
theorem zwb {fn : Func} {p u v : Tmp} (h : fn.results = #[.cell p 68, .tmp u, .tmp v]) (tmps : Array Value) (w : World) (g : Nat) (k : Int) (a : Option Addr) (n cap : Nat)
  (hp : tmps.getD p undef = .pointer (some ⟨g, 0, none⟩)) (hg : Blok w g 68 #[.int .i64 k, .slice a n cap]) :
  (results fn tmps).run Tryz.prog w = .ok (.tuple #[.agg #[.int .i64 k, .slice a n cap], tmps.getD u undef, tmps.getD v undef]) w := by
 have hp' : tmps[p]?.getD undef = .pointer (some ⟨g, 0, none⟩) := by simpa using hp
 have hl := run_loadVar_row (P := Tryz.prog) w g 68 68 #[.int .i64 k, .slice a n cap] (0, 0) _ hg Tryz.underlying68 rfl zx6
 simp [results, h, hp', asAddr, hl, Result.andThen]
theorem zw2 {fn : Func} {p u v : Tmp} (h : fn.results = #[.cell p 68, .tmp u, .tmp v]) {tmps : Array Value} {w : World} (g : Nat) (k : Int) (a : Option Addr) (n cap : Nat) {x y : Value}
  (hp : tmps.getD p undef = .pointer (some ⟨g, 0, none⟩)) (hu : tmps.getD u undef = x) (hv : tmps.getD v undef = y) (hg : Blok w g 68 #[.int .i64 k, .slice a n cap]) :
  (results fn tmps).run Tryz.prog w = .ok (.tuple #[.agg #[.int .i64 k, .slice a n cap], x, y]) w := by
 rw [zwb h tmps w g k a n cap hp hg, hu, hv]
theorem zvu {w : World} {a : Option Addr} {b : Nat} {cs : Array Value} (h : InB w a) (hb : Blok w b 68 cs) : ∀ x, a = some x -> x.block ≠ b := by
 rintro x hx rfl
 obtain ⟨cs', f, hc⟩ := h x hx
 have := (show w.heap[x.block]? = _ from hb).symm.trans hc
 simp at this
theorem zwn {k : IntKind} {w : World} {a : Option Addr} {cap b : Nat} {L : List Int} (h : zfv k w a cap L) (hne : ∀ x, a = some x -> x.block ≠ b) (i : Nat) (u : Value) : zfv k (w.setCell ⟨b, i, none⟩ u) a cap L := by
 refine ⟨h.1, h.2.1, ?_⟩
 rcases h.2.2 with h0 | ⟨g, off, rfl, hg, hc⟩
 ·exact .inl h0
 ·exact .inr ⟨g, off, rfl, by rw [show (w.setCell ⟨b, i, none⟩ u).heap.size = w.heap.size from (Array.size_modify ..)]; exact hg, fun j hj => (zt4 (p := ⟨g, off + j, none⟩) (hne ⟨g, off, none⟩ rfl)).trans (hc j hj)⟩
theorem zxl {w : World} {a : Option Addr} {b : Nat} (h : InB w a) (hne : ∀ x, a = some x -> x.block ≠ b) (i : Nat) (u : Value) : InB (w.setCell ⟨b, i, none⟩ u) a := fun x hx => by
 obtain ⟨cs, f, hc⟩ := h x hx
 exact ⟨cs, f, (Below.heap_setCell w ⟨b, i, none⟩ u x.block (hne x hx)).trans hc⟩
theorem InB.drew {w : World} {a : Option Addr} (h : InB w a) : InB w.drew a := h
theorem zw3 (a : Option Addr) (len cap : Nat) (p : Int) (L : List Int) (w : World) (h9 : len <= 90000) (hl : L.length = len) (h : zfv .u8 w a cap L) (hn : a = none -> len = 0 /\ cap = 0) :
  Calls Tryz.prog 57 #[.slice a len cap, .int .i64 p] w (zvt L p w) := by
 have hcap : len <= cap /\ cap <= maxLen := by have := h.1; omega
 have HL := Zh hl
 have HR := Zh h
 have HN := Zh hn
 clear hl h hn
 go_enter Tryz.func57, Tryz.ntmps57
 go_wp2_with fail
 refine (zw1 a len cap p L (zua w) HL.out (HR.out.below (zub w)) HN.out).mono ?_
 rintro e w1 ⟨b, s, r, rfl, rfl, hcase⟩
 rcases hcase.out with ⟨hr, rfl, rfl, hg⟩ | ⟨rfl, q, k, n, rfl, hb, hs, hnc, hm, hn1, hle⟩
 ·have HG := Zh hg
  have hr1 : (r != 0) = true := by simpa using hr
  have hr2 : (r == 0) = false := by simpa using hr
  clear hg hcase hr
  unfold zua
  go_wp2
  refine bodyPost_ret (zwb (g := w.heap.size) rfl _ _ _ _ _ _ rfl (Blok.new w _ _)) rfl ?_
  exact .no HG.out (zub w)
 ·obtain ⟨f, hf⟩ : ∃ f : Nat, f = q + 1 + k := ⟨_, rfl⟩
  obtain ⟨E, hE⟩ : ∃ E : Nat, E = q + 1 + k + n + 4 := ⟨_, rfl⟩
  have hb' : b = (f : Int) := by omega
  have hs' : s = (E : Int) := by omega
  subst hb'
  subst hs'
  have hE1 : E <= len := by rw [HL.out] at hle; omega
  have hqE : q < E := by omega
  have hqE1 : q <= E := by omega
  have hEc : E <= cap := by omega
  have hEq : ¬ E = q := by omega
  have hml : maxLen <= 9223372036854775807 := by decide
  obtain ⟨bb, off, rfl, _⟩ := zl4 HR.out (i := 0) (by rw [HL.out]; omega)
  have hsl : sl (some ⟨bb, off, none⟩) q E = some ⟨bb, off + q, none⟩ := by unfold sl; rw [if_neg hEq]; simp [WideShapes.add_plain]
  have HP : Hid (zfv .u8 (zua w) (some ⟨bb, off + q, none⟩) (E - q) ((L.take E).drop q)) := Zh (by
   rw [<- hsl]
   exact zo6 (HR.out.below (zub w)) (by omega) (by rw [HL.out]; omega) (by omega) (by omega))
  have LP : Hid (((L.take E).drop q).length = E - q) := Zh (by have := HL.out; simp; omega)
  have HNC := Zh hnc
  have HM := Zh hm
  have HF := Zh hf
  have HEE := Zh hE
  clear hcase hb hs hnc hm hle hf hE
  go_wp2_with fail
  refine (zxj _ (E - q) _ _ (zua w) (by omega) LP.out HP.out).mono ?_
  rintro e w2 ⟨a2, c2, n2, rfl, l2, r2, i2, hb2⟩
  have c0 := zv8 w hb2
  have c1 := zv9 w hb2
  have f0 := zuw w hb2 0
  have f1 := zuw w hb2 1
  have K2 := Zh (zwa w hb2)
  have W2 := Zh ((zub w).trans (hb2.mono (zub w).size))
  clear hb2
  cases hO : C.open ((L.take E).drop q) with
  | none =>
   have HG := Zh (R.shut HNC.out HM.out hn1 HEE.out (by rw [HL.out]; exact hE1) hO)
   have hop : (none : Option (List Int)).isSome = false := rfl
   clear hO
   go_wp2
   refine bodyPost_ret (zwb (g := w.heap.size) rfl _ _ _ _ _ _ rfl (by simpa using ((K2.out.set 0 (.int .i64 0)).set 1 (.slice none 0 0)))) rfl ?_
   exact .no HG.out (zf1 W2.out (Nat.le_refl _) _ _ _ _)
  | some O =>
   obtain ⟨hg, hol, hbl⟩ := R.opened HNC.out HM.out hn1 HEE.out (by rw [HL.out]; exact hE1) hO
   rw [hO] at l2 r2 i2
   have hop : (some O).isSome = true := rfl
   have ho2 : O.length = n2 := l2.out
   have r2 := Zh (show zfv .u8 w2 a2 c2 O from r2.out)
   have i2 := Zh (i2.out rfl)
   obtain ⟨j, hj⟩ : ∃ j : Nat, j = 1 + k := ⟨_, rfl⟩
   have hn2 : n2 = j + n := by omega
   have hjn : j <= n2 := by omega
   have hn20 : (0 : Int) < (n2 : Int) := by omega
   have hc2 : n2 <= c2 /\ c2 <= maxLen := by have := r2.out.1; omega
   have hd : (f : Int) - (q : Int) = (j : Int) := by have := HF.out; omega
   have hdw : IntKind.i64.wrap ((f : Int) - (q : Int)) = (j : Int) := by rw [hd]; exact zvj (by omega) (by omega)
   obtain ⟨b2, o2, rfl, hbl2, hcell⟩ := zl4 r2.out (i := 0) (by omega)
   obtain ⟨d, hdd⟩ : ∃ d, O.getD 0 0 = d := ⟨_, rfl⟩
   rw [hdd] at hcell hg
   have hcell : w2.cell? ⟨b2, o2, none⟩ = some (.int .u8 d) := hcell
   have hdb : 0 <= d /\ d <= 255 := by rw [<- hdd]; exact zo9 r2.out.2.1 _ (by simp [show 0 < O.length by omega])
   rw [<- hj, <- hn2] at hg hbl
   have HG := Zh hg
   have RB : Hid (zfv .u8 w2 (sl (some ⟨b2, o2, none⟩) j n2) (n2 - j) ((O.take n2).drop j)) := Zh (zo6 r2.out (by omega) (by omega) (by omega) (by omega))
   have LB : Hid (((O.take n2).drop j).length = n2 - j) := Zh (by rw [hbl]; omega)
   have IB : Hid (InB w2 (sl (some ⟨b2, o2, none⟩) j n2)) := Zh (i2.out.sl j n2)
   have NB : Hid (sl (some ⟨b2, o2, none⟩) j n2 = none -> n2 - j = 0 /\ n2 - j = 0) := Zh (fun h => by have := zs6 h; cases this)
   have hwd : IntKind.i64.wrap d = d := zvj (by omega) (by omega)
   have hne : (⟨b2, o2, none⟩ : Addr).block ≠ w.heap.size := zvu i2.out K2.out _ rfl
   clear hO hg hbl hol hdd hd hj hn2 ho2
   go_wp2_with fail
   refine wp_region_held (S := fun w' => w'.cell? ⟨b2, o2, none⟩ = some (.int .u8 d)) (by kernel_rfl) ?_
   change wpAnyH _ _ _ _ _ _ _ _ (World.drew w2)
   have HS0 : (fun w' : World => w'.cell? ⟨b2, o2, none⟩ = some (.int .u8 d)) (World.drew w2) := hcell
   refine tk 0 ((.slice (some ⟨b2, o2, none⟩) n2 c2)) HS0 ?_
   refine wpAnyH_take (i := 1) (v := (.pointer (some ⟨b2, o2, none⟩))) rfl (by kernel_rfl) (by kernel_rfl) (by kernel_rfl) (fun _ _ _ h => h) (.inl ⟨by kernel_rfl, fun w9 hS => by go_simp; intro h0; omega⟩) HS0 ?_
   refine wpAnyH_take (i := 2) (v := (.int .u8 d)) rfl (by kernel_rfl) (by kernel_rfl) (by kernel_rfl) (fun _ _ _ h => h) (.inl ⟨by kernel_rfl, fun w9 hS => by have c : w9.cell? ⟨b2, o2, none⟩ = some (.int .u8 d) := hS; go_simp⟩) HS0 ?_
   refine wpAnyH_take (i := 3) (v := (.int .i64 d)) rfl (by kernel_rfl) (by kernel_rfl) (by kernel_rfl) (fun _ _ _ h => h) (.inl ⟨by kernel_rfl, fun w9 hS => (show _ = Result.ok (.value (.int .i64 (IntKind.i64.wrap d))) w9 by kernel_rfl).trans (by rw [hwd])⟩) HS0 ?_
   refine tk 4 ((.slice (some ⟨b2, o2, none⟩) n2 c2)) HS0 ?_
   refine tk 5 ((.int .i64 (f : Int))) HS0 ?_
   refine tk 6 ((.int .i64 (q : Int))) HS0 ?_
   refine wpAnyH_take (i := 7) (v := (.int .i64 (j : Int))) rfl (by kernel_rfl) (by kernel_rfl) (by kernel_rfl) (fun _ _ _ h => h) (.inl ⟨by kernel_rfl, fun w9 hS => (show _ = Result.ok (.value (.int .i64 (IntKind.i64.wrap ((f : Int) - (q : Int))))) w9 by kernel_rfl).trans (by rw [hdw])⟩) HS0 ?_
   refine tk 8 ((.slice (some ⟨b2, o2, none⟩) n2 c2)) HS0 ?_
   refine tk 9 ((.int .i64 (n2 : Int))) HS0 ?_
   refine tk 10 ((.slice (some ⟨b2, o2, none⟩) n2 c2)) HS0 ?_
   refine tk 11 ((.int .i64 (n2 : Int))) HS0 ?_
   refine wpAnyH_take (i := 12) (v := (.slice (sl (some ⟨b2, o2, none⟩) j n2) (n2 - j) (n2 - j))) rfl (by kernel_rfl) (by kernel_rfl) (by kernel_rfl) (fun _ _ _ h => h) (.inl ⟨by kernel_rfl, fun w9 hS => zv7 (a := some ⟨b2, o2, none⟩) (len := n2) (cap := c2) (l := j) (h := n2) (m := n2) rfl (by kernel_rfl) (by kernel_rfl) (by kernel_rfl) (by kernel_rfl) hjn (Nat.le_refl _) hc2.1 w9⟩) HS0 ?_
   refine tk 13 ((.agg #[.int .i64 d, .slice (sl (some ⟨b2, o2, none⟩) j n2) (n2 - j) (n2 - j)])) HS0 ?_
   refine tk 14 ((.int .i64 (E : Int))) HS0 ?_
   have HS1 : (fun w' : World => w'.cell? ⟨b2, o2, none⟩ = some (.int .u8 d)) (((World.drew w2).setCell ⟨w.heap.size, 0, none⟩ (.int .i64 d)).setCell ⟨w.heap.size, 1, none⟩ (.slice (sl (some ⟨b2, o2, none⟩) j n2) (n2 - j) (n2 - j))) := by
    show World.cell? _ _ = _
    rw [zt4 (p := ⟨b2, o2, none⟩) (hne := hne), zt4 (p := ⟨b2, o2, none⟩) (hne := hne)]
    exact hcell
   refine zaf (i := 15) (by kernel_rfl) (zah (w' := (((World.drew w2).setCell ⟨w.heap.size, 0, none⟩ (.int .i64 d)).setCell ⟨w.heap.size, 1, none⟩ (.slice (sl (some ⟨b2, o2, none⟩) j n2) (n2 - j) (n2 - j)))) rfl (by kernel_rfl) (by have g0 : (World.drew w2).cell? ⟨w.heap.size, 0, none⟩ = some (.int .i64 0) := c0; have g1 : (World.drew w2).cell? ⟨w.heap.size, 1, none⟩ = some (.slice none 0 0) := c1; have k0 : (World.drew w2).frozen? ⟨w.heap.size, 0, none⟩ = false := f0; have k1 : (World.drew w2).frozen? ⟨w.heap.size, 1, none⟩ = false := f1; go_simp) ⟨HS1, ?_⟩)
   refine tk 16 ((.int .i64 (E : Int))) HS1 ?_
   refine tk 17 ((.int .i64 0)) HS1 ?_
   refine wpAnyH_done (by kernel_rfl) ?_ _
   clear c0 c1 f0 f1 hcell HS0 HS1
   go_wp2
   refine bodyPost_ret (zw2 (x := .int .i64 (E : Int)) (y := .int .i64 0) rfl w.heap.size d (sl (some ⟨b2, o2, none⟩) j n2) (n2 - j) (n2 - j) (by kernel_rfl) (by kernel_rfl) (by kernel_rfl) (by simpa using ((K2.out.drew.set 0 (.int .i64 d)).set 1 (.slice (sl (some ⟨b2, o2, none⟩) j n2) (n2 - j) (n2 - j))))) (by kernel_rfl) ?_
   have Hrow : zfv .u8 (((World.drew w2).setCell ⟨w.heap.size, 0, none⟩ (.int .i64 d)).setCell ⟨w.heap.size, 1, none⟩ (.slice (sl (some ⟨b2, o2, none⟩) j n2) (n2 - j) (n2 - j))) (sl (some ⟨b2, o2, none⟩) j n2) (n2 - j) ((O.take n2).drop j) := zwn (zwn RB.out.drew (zvu IB.out K2.out) _ _) (zvu IB.out K2.out) _ _
   exact .yes HG.out LB.out Hrow NB.out (zxl (zxl IB.out.drew (zvu IB.out K2.out) _ _) (zvu IB.out K2.out) _ _) (zf1 W2.out.drew (Nat.le_refl _) _ _ _ _)
end Go.Proofs.YtnbkkjcmblfhpaaGreat
namespace Go.Proofs.YtnbkkjcmblfhpaaGreat
open Go.RowKit
class V.Rec (α : Type) where
 k : Nat
 cells : α -> List Value
 len : ∀ x, (cells x).length = k
 pos : 0 < k /\ k <= 16
 one : ∀ x, ∀ u ∈ cells x, u.oneCell' = true
instance : V.Rec Y.Ev := ⟨9, fun x => [.int .i64 x.k, .int .i64 x.t, .int .i64 x.a, .int .i64 x.b, .int .i64 x.c, .int .i64 x.p.q, .int .i64 x.p.i, .int .i64 x.p.h, .bool x.p.pair], fun _ => rfl, by decide, fun x u hu => by
 simp only [List.mem_cons, List.not_mem_nil, or_false] at hu
 rcases hu with rfl | rfl | rfl | rfl | rfl | rfl | rfl | rfl | rfl <;> rfl⟩
def V.cells {α : Type} [V.Rec α] (x : α) : List Value := V.Rec.cells x
def VIn {α : Type} [V.Rec α] (w : World) (a : Option Addr) (n c : Nat) (l : List α) : Prop :=
 l.length = n /\ (n <= c /\ c <= maxLen) /\ (a = none -> n = 0 /\ c = 0) /\ (l = [] \/ ∃ b off, a = some ⟨b, off, none⟩ /\ b < w.heap.size /\ ∀ i x, l[i]? = some x -> ∀ j u, (V.cells x)[j]? = some u -> w.cell? ⟨b, off + i * V.Rec.k α + j, none⟩ = some u)
theorem VIn.grown {α : Type} [V.Rec α] {w w' : World} {a : Option Addr} {n c : Nat} {l : List α} {row : Option Nat} (h : VIn w a n c l) (hg : w.grownBy w' row) (hr : ∀ x, a = some x -> some x.block ≠ row) : VIn w' a n c l := by
 refine ⟨h.1, h.2.1, h.2.2.1, ?_⟩
 rcases h.2.2.2 with h0 | ⟨b, off, rfl, hlt, hc⟩
 ·exact .inl h0
 ·refine .inr ⟨b, off, rfl, Nat.lt_of_lt_of_le hlt hg.size, fun i x hi j u hj => ?_⟩
  have hb : ∀ o, w'.cell? ⟨b, o, none⟩ = w.cell? ⟨b, o, none⟩ := fun o => by unfold World.cell?; rw [hg.block b hlt (hr _ rfl)]
  rw [hb]; exact hc i x hi j u hj
theorem VIn.on {α : Type} [V.Rec α] {w w' : World} {a : Option Addr} {n c : Nat} {l : List α} (h : VIn w a n c l) (hg : w.grownBy w' none) : VIn w' a n c l := h.grown hg (by simp)
theorem VIn.below {α : Type} [V.Rec α] {w w' : World} {a : Option Addr} {n c : Nat} {l : List α} (h : VIn w a n c l) (hb : Below w.heap.size w w') : VIn w' a n c l :=
 h.on ⟨hb.os, hb.tape, hb.output, hb.size, fun i hi _ => hb.block i hi⟩
theorem VIn.nil {α : Type} [V.Rec α] (w : World) : VIn w none 0 0 ([] : List α) := ⟨rfl, ⟨Nat.le_refl _, by simp [maxLen]⟩, fun _ => ⟨rfl, rfl⟩, .inl rfl⟩
theorem VIn.at {α : Type} [V.Rec α] {w : World} {a : Option Addr} {n c i : Nat} {l : List α} (h : VIn w a n c l) (hi : i < n) :
  ∃ b off x, a = some ⟨b, off, none⟩ /\ b < w.heap.size /\ l[i]? = some x /\ ∀ j u, (V.cells x)[j]? = some u -> w.cell? ⟨b, off + i * V.Rec.k α + j, none⟩ = some u := by
 rcases h.2.2.2 with rfl | ⟨b, off, rfl, hb, hc⟩
 ·have := h.1; simp at this; omega
 ·have hx := List.getElem?_eq_getElem (show i < l.length by rw [h.1]; exact hi)
  exact ⟨b, off, _, rfl, hb, hx, hc i _ hx⟩
def Y.pval (p : Y.Po) : Value := .agg #[.int .i64 p.q, .int .i64 p.i, .int .i64 p.h, .bool p.pair]
namespace V
end V
end Go.Proofs.YtnbkkjcmblfhpaaGreat
namespace Go.Proofs.YtnbkkjcmblfhpaaGreat
open Go.RowKit
namespace Y
structure A9 where
 ap : Option Addr
 np : Nat
 cp : Nat
 al : Option Addr
 nl : Nat
 cl : Nat
 ah : Option Addr
 nh : Nat
 ch : Nat
structure SIn (w : World) (A : A9) (s : St) : Prop where
 p : QIn w A.ap A.np A.cp s.ps
 l : RIn w A.al A.nl A.cl s.l
 h : RIn w A.ah A.nh A.ch s.h
theorem SIn.below {w w' : World} {A : A9} {s : St} (h : SIn w A s) (hb : Below w.heap.size w w') : SIn w' A s := ⟨h.p.below hb, h.l.below hb, h.h.below hb⟩
structure Fits (A : A9) (s : St) : Prop where
 p : A.np <= 600
 l : A.nl <= 600
 h : A.nh <= 600
 sm : O.Sm s.ps
 b : s.d.b <= 9223372036854775807
 c : s.d.c <= 9223372036854775807
def cs (s : St) (A : A9) : List Value := [.int .i64 s.d.b, .int .i64 s.d.k, .int .i64 s.d.c, .int .i64 s.d.j, .int .i64 s.d.lo, .int .i64 s.d.hi, .int .i64 s.d.dy, .int .i64 s.d.bl, .int .i64 s.p.q, .int .i64 s.p.i, .int .i64 s.p.h, .bool s.p.pair, .int .i64 s.now, .slice A.ap A.np A.cp, .slice A.al A.nl A.cl, .slice A.ah A.nh A.ch]
def val (s : St) (A : A9) : Value := .agg #[.int .i64 s.d.b, .int .i64 s.d.k, .int .i64 s.d.c, .int .i64 s.d.j, .int .i64 s.d.lo, .int .i64 s.d.hi, .int .i64 s.d.dy, .int .i64 s.d.bl, .int .i64 s.p.q, .int .i64 s.p.i, .int .i64 s.p.h, .bool s.p.pair, .int .i64 s.now, .slice A.ap A.np A.cp, .slice A.al A.nl A.cl, .slice A.ah A.nh A.ch]
def eval (e : Ev) : Value := .agg #[.int .i64 e.k, .int .i64 e.t, .int .i64 e.a, .int .i64 e.b, .int .i64 e.c, .int .i64 e.p.q, .int .i64 e.p.i, .int .i64 e.p.h, .bool e.p.pair]
def rs (r : Rq) : List Value := [.int .i64 r.k, .int .i64 r.s, .int .i64 r.a, .int .i64 r.b, .int .i64 r.n, .int .i64 r.p.q, .int .i64 r.p.i, .int .i64 r.p.h, .bool r.p.pair]
variable {w : World} {g : Nat} {t : TypeId} {s : St} {A : A9} {ve : Value} {E x y : Int}
def Off (g : Nat) (a : Option Addr) : Prop := ∀ x, a = some x -> x.block ≠ g
theorem off_row {α : Type} [L.Rec α] {w' : World} {a : Option Addr} {n c : Nat} {l : List α} {g : Nat} (h : RIn w a n c l) (ho : Off g a) (hg : w.grownBy w' (some g)) : RIn w' a n c l :=
 h.grown hg (fun x hx e => ho x hx (Option.some.inj e))
theorem off_pool {w' : World} {a : Option Addr} {n c : Nat} {l : List O.Pl} {g : Nat} (h : QIn w a n c l) (ho : Off g a) (hg : w.grownBy w' (some g)) : QIn w' a n c l :=
 h.grown hg (fun x hx e => ho x hx (Option.some.inj e))
end Y
end Go.Proofs.YtnbkkjcmblfhpaaGreat
namespace Go.Proofs.YtnbkkjcmblfhpaaGreat
open Go.RowKit
end Go.Proofs.YtnbkkjcmblfhpaaGreat
namespace Go.Proofs.YtnbkkjcmblfhpaaGreat
set_option maxHeartbeats 400000
open Go.RowKit
theorem zbe (p : Y.Po) (v : Bool) (hv : decide (Y.MayP p) = v) (w : World) :
  Calls Tryz.prog 132 #[Y.pval p] w fun e w' => e = .returned (.bool v) /\ Below w.heap.size w w' := by
 have HV := Zh hv
 have HB := Zh (((Below.refl w.heap.size w).alloc (Nat.le_refl _) (.cells #[.int .i64 p.q, .int .i64 p.i, .int .i64 p.h, .bool p.pair] 32)))
 clear hv
 unfold Y.pval
 go_enter Tryz.func132, Tryz.ntmps132
 by_cases k0 : 1 <= p.q
 ·have d0 : decide (1 <= p.q) = true := decide_eq_true k0
  by_cases k1 : p.q <= 8
  ·have d1 : decide (p.q <= 8) = true := decide_eq_true k1
   by_cases k2 : 1 <= p.i
   ·have d2 : decide (1 <= p.i) = true := decide_eq_true k2
    by_cases k3 : p.i <= 1048576
    ·have d3 : decide (p.i <= 1048576) = true := decide_eq_true k3
     by_cases k4 : 0 <= p.h
     ·have d4 : decide (0 <= p.h) = true := decide_eq_true k4
      by_cases k5 : p.h <= 1048576
      ·have d5 : decide (p.h <= 1048576) = true := decide_eq_true k5
       have HE : Hid (v = true) := Zh (by rw [<- HV.out]; exact decide_eq_true ⟨k0, k1, k2, k3, k4, k5⟩)
       go_wp2
       go_ret
       exact ⟨by rw [HE.out]; rfl, HB.out⟩
      ·have d5 : decide (p.h <= 1048576) = false := decide_eq_false k5
       have HE : Hid (v = false) := Zh (by rw [<- HV.out]; exact decide_eq_false fun h => k5 h.2.2.2.2.2)
       go_wp2
       go_ret
       exact ⟨by rw [HE.out]; rfl, HB.out⟩
     ·have d4 : decide (0 <= p.h) = false := decide_eq_false k4
      have HE : Hid (v = false) := Zh (by rw [<- HV.out]; exact decide_eq_false fun h => k4 h.2.2.2.2.1)
      go_wp2
      go_ret
      exact ⟨by rw [HE.out]; rfl, HB.out⟩
    ·have d3 : decide (p.i <= 1048576) = false := decide_eq_false k3
     have HE : Hid (v = false) := Zh (by rw [<- HV.out]; exact decide_eq_false fun h => k3 h.2.2.2.1)
     go_wp2
     go_ret
     exact ⟨by rw [HE.out]; rfl, HB.out⟩
   ·have d2 : decide (1 <= p.i) = false := decide_eq_false k2
    have HE : Hid (v = false) := Zh (by rw [<- HV.out]; exact decide_eq_false fun h => k2 h.2.2.1)
    go_wp2
    go_ret
    exact ⟨by rw [HE.out]; rfl, HB.out⟩
  ·have d1 : decide (p.q <= 8) = false := decide_eq_false k1
   have HE : Hid (v = false) := Zh (by rw [<- HV.out]; exact decide_eq_false fun h => k1 h.2.1)
   go_wp2
   go_ret
   exact ⟨by rw [HE.out]; rfl, HB.out⟩
 ·have d0 : decide (1 <= p.q) = false := decide_eq_false k0
  have HE : Hid (v = false) := Zh (by rw [<- HV.out]; exact decide_eq_false fun h => k0 h.1)
  go_wp2
  go_ret
  exact ⟨by rw [HE.out]; rfl, HB.out⟩
end Go.Proofs.YtnbkkjcmblfhpaaGreat
namespace Go.Proofs.YtnbkkjcmblfhpaaGreat
set_option maxHeartbeats 400000
open Go.RowKit
theorem zd2 {fn : Func} {p : Tmp} (h : fn.results = #[.cell p 231]) {tmps : Array Value} {V : World} (g : Nat) (a b : Int)
  (hp : tmps.getD p undef = .pointer (some ⟨g, 0, none⟩)) (hg : Blok V g 231 #[.int .i64 a, .int .i64 b]) :
  (results fn tmps).run Tryz.prog V = .ok (.agg #[.int .i64 a, .int .i64 b]) V := by
 have hp' : tmps[p]?.getD undef = .pointer (some ⟨g, 0, none⟩) := by simpa using hp
 have hl := run_loadVar_row (P := Tryz.prog) V g 231 231 #[.int .i64 a, .int .i64 b] (0, 0) _ hg Tryz.underlying231 rfl (by kernel_rfl)
 simp [results, h, hp', asAddr, hl]
theorem zc3 (x : L.Ls) (w : World) :
  Calls Tryz.prog 210 #[L.val x] w fun e w' => e = .returned (.agg #[.int .i64 x.a, .int .i64 x.b]) /\ Below w.heap.size w w' := by
 have HB := Zh ((((Below.refl w.heap.size w).alloc (Nat.le_refl _) (.cells #[.int .i64 x.s, .int .i64 x.a, .int .i64 x.b, .int .i64 x.f, .int .i64 x.t] 104))).alloc (by simp) (.cells #[.int .i64 x.a, .int .i64 x.b] 231))
 have HR : Hid (Blok ((w.alloc (.cells #[.int .i64 x.s, .int .i64 x.a, .int .i64 x.b, .int .i64 x.f, .int .i64 x.t] 104)).alloc (.cells #[.int .i64 x.a, .int .i64 x.b] 231)) (w.heap.size + 1) 231 #[.int .i64 x.a, .int .i64 x.b]) := Zh (by
  have := Blok.new (w.alloc (.cells #[.int .i64 x.s, .int .i64 x.a, .int .i64 x.b, .int .i64 x.f, .int .i64 x.t] 104)) 231 #[.int .i64 x.a, .int .i64 x.b]
  simpa using this)
 unfold L.val
 go_enter Tryz.func210, Tryz.ntmps210
 go_wp2
 refine bodyPost_ret (zd2 rfl (w.heap.size + 1) x.a x.b (by kernel_rfl) HR.out) rfl ?_
 exact ⟨rfl, HB.out⟩
theorem zd3 (a b c d : Int) (v : Bool) (hv : decide (c < a \/ a = c /\ d < b) = v) (w : World) :
  Calls Tryz.prog 209 #[.agg #[.int .i64 a, .int .i64 b], .agg #[.int .i64 c, .int .i64 d]] w fun e w' => e = .returned (.bool v) /\ Below w.heap.size w w' := by
 have HB := Zh ((((Below.refl w.heap.size w).alloc (Nat.le_refl _) (.cells #[.int .i64 a, .int .i64 b] 231))).alloc (by simp) (.cells #[.int .i64 c, .int .i64 d] 231))
 obtain ⟨u, hu⟩ : ∃ u, decide (c < a) = u := ⟨_, rfl⟩
 obtain ⟨y, hy⟩ : ∃ v, (a == c) = v := ⟨_, rfl⟩
 obtain ⟨z, hz⟩ : ∃ z, decide (d < b) = z := ⟨_, rfl⟩
 have HE : Hid (v = (u || (y && z))) := Zh (by
  rw [<- hv, <- hu, <- hy, <- hz, Bool.eq_iff_iff]; simp)
 clear hv
 go_enter Tryz.func209, Tryz.ntmps209
 cases u with
 | true =>
  go_wp2
  go_ret
  exact ⟨by rw [HE.out]; rfl, HB.out⟩
 | false =>
  cases y with
  | false =>
   go_wp2
   go_ret
   exact ⟨by rw [HE.out]; rfl, HB.out⟩
  | true =>
   go_wp2
   go_ret
   exact ⟨by rw [HE.out]; rfl, HB.out⟩
theorem zd4 (x : E.D) (a b : Int) (v : Bool) (hv : E.blkB x a b = v) (w : World) (hb : x.b <= 9223372036854775807) (hc : x.c <= 9223372036854775807) :
  Calls Tryz.prog 212 #[.agg #[.int .i64 x.b, .int .i64 x.k, .int .i64 x.c, .int .i64 x.j, .int .i64 x.lo, .int .i64 x.hi, .int .i64 x.dy, .int .i64 x.bl], .agg #[.int .i64 a, .int .i64 b]] w fun e w' => e = .returned (.bool v) /\ Below w.heap.size w w' := by
 have HB := Zh ((((Below.refl w.heap.size w).alloc (Nat.le_refl _) (.cells #[.int .i64 x.b, .int .i64 x.k, .int .i64 x.c, .int .i64 x.j, .int .i64 x.lo, .int .i64 x.hi, .int .i64 x.dy, .int .i64 x.bl] 30))).alloc (by simp) (.cells #[.int .i64 a, .int .i64 b] 231))
 have c1 := zh6 x a b _ _ _ v ((w.alloc (.cells #[.int .i64 x.b, .int .i64 x.k, .int .i64 x.c, .int .i64 x.j, .int .i64 x.lo, .int .i64 x.hi, .int .i64 x.dy, .int .i64 x.bl] 30)).alloc (.cells #[.int .i64 a, .int .i64 b] 231)) hv rfl rfl rfl hb hc
 clear hv hb hc
 go_enter Tryz.func212, Tryz.ntmps212
 go_wp2_with fail
 refine c1.mono ?_
 rintro e w1 ⟨rfl, hb1⟩
 have HB1 := Zt HB hb1
 clear c1 hb1 HB
 go_wp2
 go_ret
 exact ⟨rfl, HB1.out.alloc HB1.out.size _⟩
theorem za3 (x : E.D) (s : Int) (hs : E.no x = s) (w : World) : Calls Tryz.prog 134 #[.agg #[.int .i64 x.b, .int .i64 x.k, .int .i64 x.c, .int .i64 x.j, .int .i64 x.lo, .int .i64 x.hi, .int .i64 x.dy, .int .i64 x.bl]] w fun e w' => e = .returned (.int .i64 s) /\ Below w.heap.size w w' := by
 have HB := Zh (zaq w x)
 have hsz := zc8 x.c x.j s (ebox w x) hs
 clear hs
 go_enter Tryz.func134, Tryz.ntmps134
 go_wp2_with fail
 refine hsz.mono ?_
 rintro e w1 ⟨rfl, hb1⟩
 go_wp2
 go_ret
 exact ⟨rfl, HB.out.trans (hb1.mono HB.out.size)⟩
end Go.Proofs.YtnbkkjcmblfhpaaGreat
namespace Go.Proofs.YtnbkkjcmblfhpaaGreat
open Go.RowKit
namespace Y
theorem cs16 {w : World} {g : Nat} {t : TypeId} {s : St} {ap : Option Addr} {np cp : Nat} {al : Option Addr} {nl cl : Nat} {ah : Option Addr} {nh ch : Nat} (K : Blok w g t #[.int .i64 s.d.b, .int .i64 s.d.k, .int .i64 s.d.c, .int .i64 s.d.j, .int .i64 s.d.lo, .int .i64 s.d.hi, .int .i64 s.d.dy, .int .i64 s.d.bl, .int .i64 s.p.q, .int .i64 s.p.i, .int .i64 s.p.h, .bool s.p.pair, .int .i64 s.now, .slice ap np cp, .slice al nl cl, .slice ah nh ch]) :
  w.cell? ⟨g, 0, none⟩ = some (.int .i64 s.d.b) /\ w.cell? ⟨g, 1, none⟩ = some (.int .i64 s.d.k) /\ w.cell? ⟨g, 2, none⟩ = some (.int .i64 s.d.c) /\ w.cell? ⟨g, 3, none⟩ = some (.int .i64 s.d.j) /\ w.cell? ⟨g, 4, none⟩ = some (.int .i64 s.d.lo) /\ w.cell? ⟨g, 5, none⟩ = some (.int .i64 s.d.hi) /\ w.cell? ⟨g, 6, none⟩ = some (.int .i64 s.d.dy) /\ w.cell? ⟨g, 7, none⟩ = some (.int .i64 s.d.bl) /\ w.cell? ⟨g, 8, none⟩ = some (.int .i64 s.p.q) /\ w.cell? ⟨g, 9, none⟩ = some (.int .i64 s.p.i) /\ w.cell? ⟨g, 10, none⟩ = some (.int .i64 s.p.h) /\ w.cell? ⟨g, 11, none⟩ = some (.bool s.p.pair) /\ w.cell? ⟨g, 12, none⟩ = some (.int .i64 s.now) /\ w.cell? ⟨g, 13, none⟩ = some (.slice ap np cp) /\ w.cell? ⟨g, 14, none⟩ = some (.slice al nl cl) /\ w.cell? ⟨g, 15, none⟩ = some (.slice ah nh ch) := ⟨K.cell 0, K.cell 1, K.cell 2, K.cell 3, K.cell 4, K.cell 5, K.cell 6, K.cell 7, K.cell 8, K.cell 9, K.cell 10, K.cell 11, K.cell 12, K.cell 13, K.cell 14, K.cell 15⟩
theorem cs16q {w : World} {g : Nat} {t : TypeId} {s : St} {ap : Option Addr} {np cp : Nat} {al : Option Addr} {nl cl : Nat} {ah : Option Addr} {nh ch : Nat} (K : Blok w g t #[.int .i64 s.d.b, .int .i64 s.d.k, .int .i64 s.d.c, .int .i64 s.d.j, .int .i64 s.d.lo, .int .i64 s.d.hi, .int .i64 s.d.dy, .int .i64 s.d.bl, .int .i64 s.p.q, .int .i64 s.p.i, .int .i64 s.p.h, .bool s.p.pair, .int .i64 s.now, .slice ap np cp, .slice al nl cl, .slice ah nh ch]) :
  (∀ d os, (Go.Sort.grow (redrawn w d) os).cell? ⟨g, 0, none⟩ = some (.int .i64 s.d.b)) /\ (∀ d os, (Go.Sort.grow (redrawn w d) os).cell? ⟨g, 1, none⟩ = some (.int .i64 s.d.k)) /\ (∀ d os, (Go.Sort.grow (redrawn w d) os).cell? ⟨g, 2, none⟩ = some (.int .i64 s.d.c)) /\ (∀ d os, (Go.Sort.grow (redrawn w d) os).cell? ⟨g, 3, none⟩ = some (.int .i64 s.d.j)) /\ (∀ d os, (Go.Sort.grow (redrawn w d) os).cell? ⟨g, 4, none⟩ = some (.int .i64 s.d.lo)) /\ (∀ d os, (Go.Sort.grow (redrawn w d) os).cell? ⟨g, 5, none⟩ = some (.int .i64 s.d.hi)) /\ (∀ d os, (Go.Sort.grow (redrawn w d) os).cell? ⟨g, 6, none⟩ = some (.int .i64 s.d.dy)) /\ (∀ d os, (Go.Sort.grow (redrawn w d) os).cell? ⟨g, 7, none⟩ = some (.int .i64 s.d.bl)) /\ (∀ d os, (Go.Sort.grow (redrawn w d) os).cell? ⟨g, 8, none⟩ = some (.int .i64 s.p.q)) /\ (∀ d os, (Go.Sort.grow (redrawn w d) os).cell? ⟨g, 9, none⟩ = some (.int .i64 s.p.i)) /\ (∀ d os, (Go.Sort.grow (redrawn w d) os).cell? ⟨g, 10, none⟩ = some (.int .i64 s.p.h)) /\ (∀ d os, (Go.Sort.grow (redrawn w d) os).cell? ⟨g, 11, none⟩ = some (.bool s.p.pair)) /\ (∀ d os, (Go.Sort.grow (redrawn w d) os).cell? ⟨g, 12, none⟩ = some (.int .i64 s.now)) /\ (∀ d os, (Go.Sort.grow (redrawn w d) os).cell? ⟨g, 13, none⟩ = some (.slice ap np cp)) /\ (∀ d os, (Go.Sort.grow (redrawn w d) os).cell? ⟨g, 14, none⟩ = some (.slice al nl cl)) /\ (∀ d os, (Go.Sort.grow (redrawn w d) os).cell? ⟨g, 15, none⟩ = some (.slice ah nh ch)) := ⟨fun d os => (K.below (below_regrown w d os) K.lt).cell 0, fun d os => (K.below (below_regrown w d os) K.lt).cell 1, fun d os => (K.below (below_regrown w d os) K.lt).cell 2, fun d os => (K.below (below_regrown w d os) K.lt).cell 3, fun d os => (K.below (below_regrown w d os) K.lt).cell 4, fun d os => (K.below (below_regrown w d os) K.lt).cell 5, fun d os => (K.below (below_regrown w d os) K.lt).cell 6, fun d os => (K.below (below_regrown w d os) K.lt).cell 7, fun d os => (K.below (below_regrown w d os) K.lt).cell 8, fun d os => (K.below (below_regrown w d os) K.lt).cell 9, fun d os => (K.below (below_regrown w d os) K.lt).cell 10, fun d os => (K.below (below_regrown w d os) K.lt).cell 11, fun d os => (K.below (below_regrown w d os) K.lt).cell 12, fun d os => (K.below (below_regrown w d os) K.lt).cell 13, fun d os => (K.below (below_regrown w d os) K.lt).cell 14, fun d os => (K.below (below_regrown w d os) K.lt).cell 15⟩
theorem cs5 {w : World} {g : Nat} {t : TypeId} {x : L.Ls} (K : Blok w g t #[.int .i64 x.s, .int .i64 x.a, .int .i64 x.b, .int .i64 x.f, .int .i64 x.t]) :
  w.cell? ⟨g, 0, none⟩ = some (.int .i64 x.s) /\ w.cell? ⟨g, 1, none⟩ = some (.int .i64 x.a) /\ w.cell? ⟨g, 2, none⟩ = some (.int .i64 x.b) /\ w.cell? ⟨g, 3, none⟩ = some (.int .i64 x.f) /\ w.cell? ⟨g, 4, none⟩ = some (.int .i64 x.t) := ⟨K.cell 0, K.cell 1, K.cell 2, K.cell 3, K.cell 4⟩
theorem cs5q {w : World} {g : Nat} {t : TypeId} {x : L.Ls} (K : Blok w g t #[.int .i64 x.s, .int .i64 x.a, .int .i64 x.b, .int .i64 x.f, .int .i64 x.t]) :
  (∀ d os, (Go.Sort.grow (redrawn w d) os).cell? ⟨g, 0, none⟩ = some (.int .i64 x.s)) /\ (∀ d os, (Go.Sort.grow (redrawn w d) os).cell? ⟨g, 1, none⟩ = some (.int .i64 x.a)) /\ (∀ d os, (Go.Sort.grow (redrawn w d) os).cell? ⟨g, 2, none⟩ = some (.int .i64 x.b)) /\ (∀ d os, (Go.Sort.grow (redrawn w d) os).cell? ⟨g, 3, none⟩ = some (.int .i64 x.f)) /\ (∀ d os, (Go.Sort.grow (redrawn w d) os).cell? ⟨g, 4, none⟩ = some (.int .i64 x.t)) := ⟨fun d os => (K.below (below_regrown w d os) K.lt).cell 0, fun d os => (K.below (below_regrown w d os) K.lt).cell 1, fun d os => (K.below (below_regrown w d os) K.lt).cell 2, fun d os => (K.below (below_regrown w d os) K.lt).cell 3, fun d os => (K.below (below_regrown w d os) K.lt).cell 4⟩
theorem cs3 {w : World} {g : Nat} {t : TypeId} {x : L.T3} (K : Blok w g t #[.int .i64 x.a, .int .i64 x.b, .int .i64 x.x]) :
  w.cell? ⟨g, 0, none⟩ = some (.int .i64 x.a) /\ w.cell? ⟨g, 1, none⟩ = some (.int .i64 x.b) /\ w.cell? ⟨g, 2, none⟩ = some (.int .i64 x.x) := ⟨K.cell 0, K.cell 1, K.cell 2⟩
theorem cs3q {w : World} {g : Nat} {t : TypeId} {x : L.T3} (K : Blok w g t #[.int .i64 x.a, .int .i64 x.b, .int .i64 x.x]) :
  (∀ d os, (Go.Sort.grow (redrawn w d) os).cell? ⟨g, 0, none⟩ = some (.int .i64 x.a)) /\ (∀ d os, (Go.Sort.grow (redrawn w d) os).cell? ⟨g, 1, none⟩ = some (.int .i64 x.b)) /\ (∀ d os, (Go.Sort.grow (redrawn w d) os).cell? ⟨g, 2, none⟩ = some (.int .i64 x.x)) := ⟨fun d os => (K.below (below_regrown w d os) K.lt).cell 0, fun d os => (K.below (below_regrown w d os) K.lt).cell 1, fun d os => (K.below (below_regrown w d os) K.lt).cell 2⟩
theorem cb2 {w : World} {g : Nat} {t : TypeId} {a b : Int} (K : Blok w g t #[.int .i64 a, .int .i64 b]) :
  w.cell? ⟨g, 0, none⟩ = some (.int .i64 a) /\ w.cell? ⟨g, 1, none⟩ = some (.int .i64 b) := ⟨K.cell 0, K.cell 1⟩
theorem cb2q {w : World} {g : Nat} {t : TypeId} {a b : Int} (K : Blok w g t #[.int .i64 a, .int .i64 b]) :
  (∀ d os, (Go.Sort.grow (redrawn w d) os).cell? ⟨g, 0, none⟩ = some (.int .i64 a)) /\ (∀ d os, (Go.Sort.grow (redrawn w d) os).cell? ⟨g, 1, none⟩ = some (.int .i64 b)) := ⟨fun d os => (K.below (below_regrown w d os) K.lt).cell 0, fun d os => (K.below (below_regrown w d os) K.lt).cell 1⟩
theorem at5q {w : World} {a : Option Addr} {n c i : Nat} {l : List L.Ls} (h : RIn w a n c l) (hi : i < n) :
  ∃ b off x, a = some ⟨b, off, none⟩ /\ b < w.heap.size /\ l[i]? = some x /\ (w.cell? ⟨b, off + i * 5, none⟩ = some (.int .i64 x.s) /\ w.cell? ⟨b, off + i * 5 + 1, none⟩ = some (.int .i64 x.a) /\ w.cell? ⟨b, off + i * 5 + 2, none⟩ = some (.int .i64 x.b) /\ w.cell? ⟨b, off + i * 5 + 3, none⟩ = some (.int .i64 x.f) /\ w.cell? ⟨b, off + i * 5 + 4, none⟩ = some (.int .i64 x.t)) /\
   (∀ d os, (Go.Sort.grow (redrawn w d) os).cell? ⟨b, off + i * 5, none⟩ = some (.int .i64 x.s)) /\ (∀ d os, (Go.Sort.grow (redrawn w d) os).cell? ⟨b, off + i * 5 + 1, none⟩ = some (.int .i64 x.a)) /\ (∀ d os, (Go.Sort.grow (redrawn w d) os).cell? ⟨b, off + i * 5 + 2, none⟩ = some (.int .i64 x.b)) /\ (∀ d os, (Go.Sort.grow (redrawn w d) os).cell? ⟨b, off + i * 5 + 3, none⟩ = some (.int .i64 x.f)) /\ (∀ d os, (Go.Sort.grow (redrawn w d) os).cell? ⟨b, off + i * 5 + 4, none⟩ = some (.int .i64 x.t)) := by
 obtain ⟨b, off, x, ha, hb, hx, p⟩ := h.at5 hi
 refine ⟨b, off, x, ha, hb, hx, p, ?_⟩
 have k : ∀ d os, _ := fun d os => (h.below (below_regrown w d os)).at5 hi
 refine ⟨fun d os => ?_, fun d os => ?_, fun d os => ?_, fun d os => ?_, fun d os => ?_⟩ <;>
 ·obtain ⟨b', off', x', ha', _, hx', p'⟩ := k d os
  rw [ha] at ha'; cases ha'
  rw [hx] at hx'; cases hx'
  first | exact p'.1 | exact p'.2.1 | exact p'.2.2.1 | exact p'.2.2.2.1 | exact p'.2.2.2.2
theorem at3q {w : World} {a : Option Addr} {n c i : Nat} {l : List L.T3} (h : RIn w a n c l) (hi : i < n) :
  ∃ b off x, a = some ⟨b, off, none⟩ /\ b < w.heap.size /\ l[i]? = some x /\ (w.cell? ⟨b, off + i * 3, none⟩ = some (.int .i64 x.a) /\ w.cell? ⟨b, off + i * 3 + 1, none⟩ = some (.int .i64 x.b) /\ w.cell? ⟨b, off + i * 3 + 2, none⟩ = some (.int .i64 x.x)) /\
   (∀ d os, (Go.Sort.grow (redrawn w d) os).cell? ⟨b, off + i * 3, none⟩ = some (.int .i64 x.a)) /\ (∀ d os, (Go.Sort.grow (redrawn w d) os).cell? ⟨b, off + i * 3 + 1, none⟩ = some (.int .i64 x.b)) /\ (∀ d os, (Go.Sort.grow (redrawn w d) os).cell? ⟨b, off + i * 3 + 2, none⟩ = some (.int .i64 x.x)) := by
 obtain ⟨b, off, x, ha, hb, hx, p⟩ := h.at3 hi
 refine ⟨b, off, x, ha, hb, hx, p, ?_⟩
 have k : ∀ d os, _ := fun d os => (h.below (below_regrown w d os)).at3 hi
 refine ⟨fun d os => ?_, fun d os => ?_, fun d os => ?_⟩ <;>
 ·obtain ⟨b', off', x', ha', _, hx', p'⟩ := k d os
  rw [ha] at ha'; cases ha'
  rw [hx] at hx'; cases hx'
  first | exact p'.1 | exact p'.2.1 | exact p'.2.2
end Y
end Go.Proofs.YtnbkkjcmblfhpaaGreat
namespace Go.Proofs.YtnbkkjcmblfhpaaGreat
open Go.RowKit
namespace Y
end Y
end Go.Proofs.YtnbkkjcmblfhpaaGreat
namespace Go.Proofs.YtnbkkjcmblfhpaaGreat
open Go.RowKit
end Go.Proofs.YtnbkkjcmblfhpaaGreat
namespace Go.Proofs.YtnbkkjcmblfhpaaGreat
open Go.RowKit
namespace Y
end Y
end Go.Proofs.YtnbkkjcmblfhpaaGreat
namespace Go.Proofs.YtnbkkjcmblfhpaaGreat
open Go.RowKit
theorem za4 {V : World} {B n g b k : Nat} {v : Value} {l : List Value} {t t' : TypeId} {cs : Array Value} (h : V.ownsRow B t k v n l) (hb : Blok V b t' cs) (ht : t' ≠ t) (hg : v.ownBlock = some g) : g ≠ b := by
 rintro rfl
 rcases h.2 with ⟨rfl, _⟩ | ⟨q, cap, cur, rfl, _, hq, _⟩
 ·cases hg
 ·obtain rfl : q = g := Option.some.inj hg
  unfold Blok at hb
  rw [hq] at hb
  simp at hb
  exact ht hb.2.symm
namespace Y
def Up (H : Nat) (A : A9) : Prop := (∀ q, A.ap = some q -> H <= q.block) /\ (∀ q, A.al = some q -> H <= q.block) /\ ∀ q, A.ah = some q -> H <= q.block
theorem Up.mono {H H' : Nat} {A : A9} (h : Up H A) (hh : H' <= H) : Up H' A := ⟨fun q hq => Nat.le_trans hh (h.1 q hq), fun q hq => Nat.le_trans hh (h.2.1 q hq), fun q hq => Nat.le_trans hh (h.2.2 q hq)⟩
end Y
end Go.Proofs.YtnbkkjcmblfhpaaGreat
