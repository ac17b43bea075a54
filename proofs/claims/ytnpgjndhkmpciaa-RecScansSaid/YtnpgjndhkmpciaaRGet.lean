/-
  Walk of moorings/rec.Get, at every slice of bytes and every place.
-/
import Derived.Test.YtnpgjndhkmpciaaROpen
import Derived.Test.YtnpgjndhkmpciaaRBounds
namespace Go.Proofs.Ytnpgjndhkmpciaa
open Go.RowKit

/-- What Get returns. -/
def GetRec (L : List Int) (p : Int) (w : World) (e : Ending) (w' : World) : Prop :=
  ∃ a n cap, e = .returned (.tuple #[.agg #[.int .i64 (R.get L p).2.1.1, .slice a n cap], .int .i64 (R.get L p).2.2, .int .i64 (R.get L p).1]) ∧ Hid ((R.get L p).2.1.2.length = n) ∧ Hid (RowIn .u8 w' a cap (R.get L p).2.1.2) ∧
    Hid (a = none → n = 0 ∧ cap = 0) ∧ Hid (InB w' a) ∧ Below w.heap.size w w'
theorem GetRec.no {L : List Int} {p r : Int} {w w' : World} (h : R.get L p = (r, (0, []), 0)) (hb : Below w.heap.size w w') : GetRec L p w (.returned (.tuple #[.agg #[.int .i64 0, .slice none 0 0], .int .i64 0, .int .i64 r])) w' :=
  ⟨none, 0, 0, by rw [h], by rw [h]; exact Lib.hid rfl, by rw [h]; exact Lib.hid (row_nil _ _), Lib.hid (fun _ => ⟨rfl, rfl⟩), Lib.hid (InB.none _), hb⟩
theorem GetRec.yes {L B : List Int} {p k s : Int} {a : Option Addr} {n cap : Nat} {w w' : World} (h : R.get L p = (0, (k, B), s)) (hl : B.length = n) (hr : RowIn .u8 w' a cap B) (hn : a = none → n = 0 ∧ cap = 0) (hi : InB w' a) (hb : Below w.heap.size w w') :
    GetRec L p w (.returned (.tuple #[.agg #[.int .i64 k, .slice a n cap], .int .i64 s, .int .i64 0])) w' :=
  ⟨a, n, cap, by rw [h], by rw [h]; exact Lib.hid hl, by rw [h]; exact Lib.hid hr, Lib.hid hn, Lib.hid hi, hb⟩

/-- What a sealed part of bytes is. -/
theorem R.opened {L O : List Int} {q k n E : Nat} (hc : ¬ R.cut (L.drop q)) (hm : M.head (L.drop q).tail = some ((n : Int), k)) (hn : n ≤ 1000) (hE : E = q + 1 + k + n + 4) (hl : E ≤ L.length) (hO : C.open ((L.take E).drop q) = some O) :
    R.get L q = (0, (O.getD 0 0, (O.take (1 + k + n)).drop (1 + k)), (E : Int)) ∧ O.length = 1 + k + n ∧ ((O.take (1 + k + n)).drop (1 + k)).length = n := by
  have hD : (L.take E).drop q = (L.drop q).take (1 + k + n + 4) := by rw [List.drop_take]; congr 1; omega
  rw [hD] at hO
  have hsum := C.open_some.1 hO
  have hlen := congrArg List.length hsum
  rw [C.seal_len, List.length_take, List.length_drop, Nat.min_eq_left (by omega)] at hlen
  have hOL : O = (L.drop q).take (1 + k + n) := by
    have := congrArg (List.take (1 + k + n)) hsum
    rw [List.take_take, Nat.min_eq_left (by omega)] at this
    rw [← this, C.seal, List.take_left' (by omega)]
  refine ⟨?_, by omega, by simp; omega⟩
  have := R.get_ok (L := L) (p := q) (by omega) (R.head_yes hc hm (by omega) (by simp; omega) (by rw [Int.toNat_natCast, hO]; rfl))
  rw [this, Int.toNat_natCast]
  have e1 : (L.drop q).headD 0 = O.getD 0 0 := by
    rw [hOL]
    cases hq : L.drop q with
    | nil => simp
    | cons d t => rw [show 1 + k + n = (k + n) + 1 by omega]; simp
  have e2 : ((L.drop q).drop (1 + k)).take n = (O.take (1 + k + n)).drop (1 + k) := by
    rw [hOL, List.take_take, Nat.min_self, List.drop_take]; congr 1; omega
  rw [e1, e2]
  congr 2
  omega
theorem R.shut {L : List Int} {q k n E : Nat} (hc : ¬ R.cut (L.drop q)) (hm : M.head (L.drop q).tail = some ((n : Int), k)) (hn : n ≤ 1000) (hE : E = q + 1 + k + n + 4) (hl : E ≤ L.length) (hO : C.open ((L.take E).drop q) = none) :
    R.get L q = (3, (0, []), 0) := by
  have hD : (L.take E).drop q = (L.drop q).take (1 + k + n + 4) := by rw [List.drop_take]; congr 1; omega
  rw [hD] at hO
  exact R.get_err (by omega) (by decide) (R.head_sum hc hm (by omega) (by simp; omega) (by rw [Int.toNat_natCast, hO]; rfl))

theorem wrap_small {x : Int} (h0 : -9223372036854775808 ≤ x) (h1 : x ≤ 9223372036854775807) : IntKind.i64.wrap x = x := by
  simp [IntKind.wrap, IntKind.bits, IntKind.signed]; omega
/-- A part of bytes by three numbers, as an operation of a region. -/
theorem exec_slice3 {o : Oper} {ρ : Operand → Value} {x lo hi mx : Operand} {a : Option Addr} {len cap l h m : Nat} (ho : o.op = .slice 22 x (some lo) (some hi) (some mx)) (hx : ρ x = .slice a len cap) (hlo : ρ lo = .int .i64 (l : Int)) (hhi : ρ hi = .int .i64 (h : Int)) (hmx : ρ mx = .int .i64 (m : Int))
    (h1 : l ≤ h) (h2 : h ≤ m) (h3 : m ≤ cap) (w : World) : (execOp ρ o).run Try.prog w = .ok (.value (.slice (sl a l m) (h - l) (m - l))) w := by
  unfold execOp
  simp only [ho, Option.map_some, hx, hlo, hhi, hmx, Sem.run_bind, slice3_run a h1 h2 h3 w, Result.andThen, Sem.run_pure]

/-- The world behind a record's being made. -/
def recNew (w : World) : World := w.alloc (.cells #[.int .i64 0, .slice none 0 0] 24)
theorem recNew_below (w : World) : Below w.heap.size w (recNew w) := (Below.refl _ w).alloc (Nat.le_refl _) _
theorem recNew_kind (w : World) {w' : World} (h : Below (recNew w).heap.size (recNew w) w') : w'.cell? ⟨w.heap.size, 0, none⟩ = some (.int .i64 0) :=
  (h.cell (p := ⟨w.heap.size, 0, none⟩) (by simp [recNew])).trans ((Blok.new w _ _).cell 0)
theorem recNew_body (w : World) {w' : World} (h : Below (recNew w).heap.size (recNew w) w') : w'.cell? ⟨w.heap.size, 1, none⟩ = some (.slice none 0 0) :=
  (h.cell (p := ⟨w.heap.size, 1, none⟩) (by simp [recNew])).trans ((Blok.new w _ _).cell 1)
theorem recNew_frozen (w : World) {w' : World} (h : Below (recNew w).heap.size (recNew w) w') (i : Nat) : w'.frozen? ⟨w.heap.size, i, none⟩ = false :=
  Blok.frozen ((Blok.new w 24 #[.int .i64 0, .slice none 0 0]).below h (by simp [recNew])) i

theorem recNew_blok (w : World) {w' : World} (h : Below (recNew w).heap.size (recNew w) w') : Blok w' w.heap.size 24 #[.int .i64 0, .slice none 0 0] :=
  (Blok.new w 24 #[.int .i64 0, .slice none 0 0]).below h (by simp [recNew])
theorem info_rec : (Try.prog.info? 24).map (·.size) = some 2 := by kernel_rfl
/-- Results of which the first one is a record in a cell. -/
theorem ret_rec {fn : Func} {p u v : Tmp} (h : fn.results = #[.cell p 24, .tmp u, .tmp v]) (tmps : Array Value) (w : World) (g : Nat) (k : Int) (a : Option Addr) (n cap : Nat)
    (hp : tmps.getD p undef = .pointer (some ⟨g, 0, none⟩)) (hg : Blok w g 24 #[.int .i64 k, .slice a n cap]) :
    (results fn tmps).run Try.prog w = .ok (.tuple #[.agg #[.int .i64 k, .slice a n cap], tmps.getD u undef, tmps.getD v undef]) w := by
  have hp' : tmps[p]?.getD undef = .pointer (some ⟨g, 0, none⟩) := by simpa using hp
  have hl := run_loadVar_row (P := Try.prog) w g 24 24 #[.int .i64 k, .slice a n cap] (0, 0) _ hg Try.underlying24 rfl info_rec
  simp [results, h, hp', asAddr, hl, Result.andThen]

/-- The same, the other two given. -/
theorem ret_rec_of {fn : Func} {p u v : Tmp} (h : fn.results = #[.cell p 24, .tmp u, .tmp v]) {tmps : Array Value} {w : World} (g : Nat) (k : Int) (a : Option Addr) (n cap : Nat) {x y : Value}
    (hp : tmps.getD p undef = .pointer (some ⟨g, 0, none⟩)) (hu : tmps.getD u undef = x) (hv : tmps.getD v undef = y) (hg : Blok w g 24 #[.int .i64 k, .slice a n cap]) :
    (results fn tmps).run Try.prog w = .ok (.tuple #[.agg #[.int .i64 k, .slice a n cap], x, y]) w := by
  rw [ret_rec h tmps w g k a n cap hp hg, hu, hv]

theorem cell_set_far {w : World} {b i : Nat} {u : Value} {p : Addr} (hne : p.block ≠ b) : (w.setCell ⟨b, i, none⟩ u).cell? p = w.cell? p := by
  unfold World.cell?
  rw [Below.heap_setCell w ⟨b, i, none⟩ u p.block hne]
/-- A block of bytes is none of records. -/
theorem inB_ne {w : World} {a : Option Addr} {b : Nat} {cs : Array Value} (h : InB w a) (hb : Blok w b 24 cs) : ∀ x, a = some x → x.block ≠ b := by
  rintro x hx rfl
  obtain ⟨cs', f, hc⟩ := h x hx
  have := (show w.heap[x.block]? = _ from hb).symm.trans hc
  simp at this
theorem row_set {k : IntKind} {w : World} {a : Option Addr} {cap b : Nat} {L : List Int} (h : RowIn k w a cap L) (hne : ∀ x, a = some x → x.block ≠ b) (i : Nat) (u : Value) : RowIn k (w.setCell ⟨b, i, none⟩ u) a cap L := by
  refine ⟨h.1, h.2.1, ?_⟩
  rcases h.2.2 with h0 | ⟨g, off, rfl, hg, hc⟩
  · exact .inl h0
  · exact .inr ⟨g, off, rfl, by rw [show (w.setCell ⟨b, i, none⟩ u).heap.size = w.heap.size from (Array.size_modify ..)]; exact hg, fun j hj => (cell_set_far (p := ⟨g, off + j, none⟩) (hne ⟨g, off, none⟩ rfl)).trans (hc j hj)⟩
theorem inB_set {w : World} {a : Option Addr} {b : Nat} (h : InB w a) (hne : ∀ x, a = some x → x.block ≠ b) (i : Nat) (u : Value) : InB (w.setCell ⟨b, i, none⟩ u) a := fun x hx => by
  obtain ⟨cs, f, hc⟩ := h x hx
  exact ⟨cs, f, (Below.heap_setCell w ⟨b, i, none⟩ u x.block (hne x hx)).trans hc⟩
theorem RowIn.drew {k : IntKind} {w : World} {a : Option Addr} {cap : Nat} {L : List Int} (h : RowIn k w a cap L) : RowIn k w.drew a cap L := h
theorem InB.drew {w : World} {a : Option Addr} (h : InB w a) : InB w.drew a := h

theorem below_store {B : Nat} {w w' : World} {b : Nat} (h : Below B w w') (hb : B ≤ b) (i j : Nat) (u v : Value) : Below B w ((w'.setCell ⟨b, i, none⟩ u).setCell ⟨b, j, none⟩ v) := (h.setCell (p := ⟨b, i, none⟩) hb u).setCell (p := ⟨b, j, none⟩) hb v

set_option maxRecDepth 100000 in
set_option maxHeartbeats 200000 in
theorem recGet_any (a : Option Addr) (len cap : Nat) (p : Int) (L : List Int) (w : World) (h9 : len ≤ 90000) (hl : L.length = len) (h : RowIn .u8 w a cap L) (hn : a = none → len = 0 ∧ cap = 0) :
    Calls Try.prog 14 #[.slice a len cap, .int .i64 p] w (GetRec L p w) := by
  have hcap : len ≤ cap ∧ cap ≤ maxLen := by have := h.1; omega
  have HL := Lib.hid hl
  have HR := Lib.hid h
  have HN := Lib.hid hn
  clear hl h hn
  go_enter Try.func14, Try.ntmps14
  go_wp2_with fail
  refine (bounds_any a len cap p L (recNew w) HL.out (HR.out.below (recNew_below w)) HN.out).mono ?_
  rintro e w1 ⟨b, s, r, rfl, rfl, hcase⟩
  rcases hcase.out with ⟨hr, rfl, rfl, hg⟩ | ⟨rfl, q, k, n, rfl, hb, hs, hnc, hm, hn1, hle⟩
  · have HG := Lib.hid hg
    have hr1 : (r != 0) = true := by simpa using hr
    have hr2 : (r == 0) = false := by simpa using hr
    clear hg hcase hr
    unfold recNew
    go_wp2
    refine bodyPost_ret (ret_rec (g := w.heap.size) rfl _ _ _ _ _ _ rfl (Blok.new w _ _)) rfl ?_
    exact .no HG.out (recNew_below w)
  · obtain ⟨f, hf⟩ : ∃ f : Nat, f = q + 1 + k := ⟨_, rfl⟩
    obtain ⟨E, hE⟩ : ∃ E : Nat, E = q + 1 + k + n + 4 := ⟨_, rfl⟩
    have hb' : b = (f : Int) := by omega
    have hs' : s = (E : Int) := by omega
    subst hb'
    subst hs'
    have hE1 : E ≤ len := by rw [HL.out] at hle; omega
    have hqE : q < E := by omega
    have hqE1 : q ≤ E := by omega
    have hEc : E ≤ cap := by omega
    have hEq : ¬ E = q := by omega
    have hml : maxLen ≤ 9223372036854775807 := by decide
    obtain ⟨bb, off, rfl, _⟩ := row_at HR.out (i := 0) (by rw [HL.out]; omega)
    have hsl : sl (some ⟨bb, off, none⟩) q E = some ⟨bb, off + q, none⟩ := by unfold sl; rw [if_neg hEq]; simp [WideShapes.add_plain]
    have HP : Hid (RowIn .u8 (recNew w) (some ⟨bb, off + q, none⟩) (E - q) ((L.take E).drop q)) := Lib.hid (by
      rw [← hsl]
      exact row_sliced (HR.out.below (recNew_below w)) (by omega) (by rw [HL.out]; omega) (by omega) (by omega))
    have LP : Hid (((L.take E).drop q).length = E - q) := Lib.hid (by have := HL.out; simp; omega)
    have HNC := Lib.hid hnc
    have HM := Lib.hid hm
    have HF := Lib.hid hf
    have HEE := Lib.hid hE
    clear hcase hb hs hnc hm hle hf hE
    go_wp2_with fail

    refine (openB_any _ (E - q) _ _ (recNew w) (by omega) LP.out HP.out).mono ?_
    rintro e w2 ⟨a2, c2, n2, rfl, l2, r2, i2, hb2⟩
    have c0 := recNew_kind w hb2
    have c1 := recNew_body w hb2
    have f0 := recNew_frozen w hb2 0
    have f1 := recNew_frozen w hb2 1
    have K2 := Lib.hid (recNew_blok w hb2)
    have W2 := Lib.hid ((recNew_below w).trans (hb2.mono (recNew_below w).size))
    clear hb2
    cases hO : C.open ((L.take E).drop q) with
    | none =>
      have HG := Lib.hid (R.shut HNC.out HM.out hn1 HEE.out (by rw [HL.out]; exact hE1) hO)
      have hop : (none : Option (List Int)).isSome = false := rfl
      clear hO
      go_wp2
      refine bodyPost_ret (ret_rec (g := w.heap.size) rfl _ _ _ _ _ _ rfl (by simpa using ((K2.out.set 0 (.int .i64 0)).set 1 (.slice none 0 0)))) rfl ?_
      exact .no HG.out (below_store W2.out (Nat.le_refl _) _ _ _ _)
    | some O =>
      obtain ⟨hg, hol, hbl⟩ := R.opened HNC.out HM.out hn1 HEE.out (by rw [HL.out]; exact hE1) hO
      rw [hO] at l2 r2 i2
      have hop : (some O).isSome = true := rfl
      have ho2 : O.length = n2 := l2.out
      have r2 := Lib.hid (show RowIn .u8 w2 a2 c2 O from r2.out)
      have i2 := Lib.hid (i2.out rfl)
      obtain ⟨j, hj⟩ : ∃ j : Nat, j = 1 + k := ⟨_, rfl⟩
      have hn2 : n2 = j + n := by omega
      have hjn : j ≤ n2 := by omega
      have hn20 : (0 : Int) < (n2 : Int) := by omega
      have hc2 : n2 ≤ c2 ∧ c2 ≤ maxLen := by have := r2.out.1; omega
      have hd : (f : Int) - (q : Int) = (j : Int) := by have := HF.out; omega
      have hdw : IntKind.i64.wrap ((f : Int) - (q : Int)) = (j : Int) := by rw [hd]; exact wrap_small (by omega) (by omega)
      obtain ⟨b2, o2, rfl, hbl2, hcell⟩ := row_at r2.out (i := 0) (by omega)
      obtain ⟨d, hdd⟩ : ∃ d, O.getD 0 0 = d := ⟨_, rfl⟩
      rw [hdd] at hcell hg
      have hcell : w2.cell? ⟨b2, o2, none⟩ = some (.int .u8 d) := hcell
      have hdb : 0 ≤ d ∧ d ≤ 255 := by rw [← hdd]; exact byte_of r2.out.2.1 _ (by simp [show 0 < O.length by omega])
      rw [← hj, ← hn2] at hg hbl
      have HG := Lib.hid hg
      have RB : Hid (RowIn .u8 w2 (sl (some ⟨b2, o2, none⟩) j n2) (n2 - j) ((O.take n2).drop j)) := Lib.hid (row_sliced r2.out (by omega) (by omega) (by omega) (by omega))
      have LB : Hid (((O.take n2).drop j).length = n2 - j) := Lib.hid (by rw [hbl]; omega)
      have IB : Hid (InB w2 (sl (some ⟨b2, o2, none⟩) j n2)) := Lib.hid (i2.out.sl j n2)
      have NB : Hid (sl (some ⟨b2, o2, none⟩) j n2 = none → n2 - j = 0 ∧ n2 - j = 0) := Lib.hid (fun h => by have := sl_none h; cases this)
      have hwd : IntKind.i64.wrap d = d := wrap_small (by omega) (by omega)
      have hne : (⟨b2, o2, none⟩ : Addr).block ≠ w.heap.size := inB_ne i2.out K2.out _ rfl
      clear hO hg hbl hol hdd hd hj hn2 ho2
      go_wp2_with fail
      refine wp_region_held (S := fun w' => w'.cell? ⟨b2, o2, none⟩ = some (.int .u8 d)) (by kernel_rfl) ?_
      change wpAnyH _ _ _ _ _ _ _ _ (World.drew w2)
      have HS0 : (fun w' : World => w'.cell? ⟨b2, o2, none⟩ = some (.int .u8 d)) (World.drew w2) := hcell
      refine wpAnyH_take (i := 0) (v := (.slice (some ⟨b2, o2, none⟩) n2 c2)) rfl (by kernel_rfl) (by kernel_rfl) (by kernel_rfl) (fun _ _ _ h => h) (.inl ⟨by kernel_rfl, fun w9 hS => by kernel_rfl⟩) HS0 ?_
      refine wpAnyH_take (i := 1) (v := (.pointer (some ⟨b2, o2, none⟩))) rfl (by kernel_rfl) (by kernel_rfl) (by kernel_rfl) (fun _ _ _ h => h) (.inl ⟨by kernel_rfl, fun w9 hS => by go_simp; intro h0; omega⟩) HS0 ?_
      refine wpAnyH_take (i := 2) (v := (.int .u8 d)) rfl (by kernel_rfl) (by kernel_rfl) (by kernel_rfl) (fun _ _ _ h => h) (.inl ⟨by kernel_rfl, fun w9 hS => by have c : w9.cell? ⟨b2, o2, none⟩ = some (.int .u8 d) := hS; go_simp⟩) HS0 ?_
      refine wpAnyH_take (i := 3) (v := (.int .i64 d)) rfl (by kernel_rfl) (by kernel_rfl) (by kernel_rfl) (fun _ _ _ h => h) (.inl ⟨by kernel_rfl, fun w9 hS => (show _ = Result.ok (.value (.int .i64 (IntKind.i64.wrap d))) w9 by kernel_rfl).trans (by rw [hwd])⟩) HS0 ?_
      refine wpAnyH_take (i := 4) (v := (.slice (some ⟨b2, o2, none⟩) n2 c2)) rfl (by kernel_rfl) (by kernel_rfl) (by kernel_rfl) (fun _ _ _ h => h) (.inl ⟨by kernel_rfl, fun w9 hS => by kernel_rfl⟩) HS0 ?_
      refine wpAnyH_take (i := 5) (v := (.int .i64 (f : Int))) rfl (by kernel_rfl) (by kernel_rfl) (by kernel_rfl) (fun _ _ _ h => h) (.inl ⟨by kernel_rfl, fun w9 hS => by kernel_rfl⟩) HS0 ?_
      refine wpAnyH_take (i := 6) (v := (.int .i64 (q : Int))) rfl (by kernel_rfl) (by kernel_rfl) (by kernel_rfl) (fun _ _ _ h => h) (.inl ⟨by kernel_rfl, fun w9 hS => by kernel_rfl⟩) HS0 ?_
      refine wpAnyH_take (i := 7) (v := (.int .i64 (j : Int))) rfl (by kernel_rfl) (by kernel_rfl) (by kernel_rfl) (fun _ _ _ h => h) (.inl ⟨by kernel_rfl, fun w9 hS => (show _ = Result.ok (.value (.int .i64 (IntKind.i64.wrap ((f : Int) - (q : Int))))) w9 by kernel_rfl).trans (by rw [hdw])⟩) HS0 ?_
      refine wpAnyH_take (i := 8) (v := (.slice (some ⟨b2, o2, none⟩) n2 c2)) rfl (by kernel_rfl) (by kernel_rfl) (by kernel_rfl) (fun _ _ _ h => h) (.inl ⟨by kernel_rfl, fun w9 hS => by kernel_rfl⟩) HS0 ?_
      refine wpAnyH_take (i := 9) (v := (.int .i64 (n2 : Int))) rfl (by kernel_rfl) (by kernel_rfl) (by kernel_rfl) (fun _ _ _ h => h) (.inl ⟨by kernel_rfl, fun w9 hS => by kernel_rfl⟩) HS0 ?_
      refine wpAnyH_take (i := 10) (v := (.slice (some ⟨b2, o2, none⟩) n2 c2)) rfl (by kernel_rfl) (by kernel_rfl) (by kernel_rfl) (fun _ _ _ h => h) (.inl ⟨by kernel_rfl, fun w9 hS => by kernel_rfl⟩) HS0 ?_
      refine wpAnyH_take (i := 11) (v := (.int .i64 (n2 : Int))) rfl (by kernel_rfl) (by kernel_rfl) (by kernel_rfl) (fun _ _ _ h => h) (.inl ⟨by kernel_rfl, fun w9 hS => by kernel_rfl⟩) HS0 ?_
      refine wpAnyH_take (i := 12) (v := (.slice (sl (some ⟨b2, o2, none⟩) j n2) (n2 - j) (n2 - j))) rfl (by kernel_rfl) (by kernel_rfl) (by kernel_rfl) (fun _ _ _ h => h) (.inl ⟨by kernel_rfl, fun w9 hS => exec_slice3 (a := some ⟨b2, o2, none⟩) (len := n2) (cap := c2) (l := j) (h := n2) (m := n2) rfl (by kernel_rfl) (by kernel_rfl) (by kernel_rfl) (by kernel_rfl) hjn (Nat.le_refl _) hc2.1 w9⟩) HS0 ?_
      refine wpAnyH_take (i := 13) (v := (.agg #[.int .i64 d, .slice (sl (some ⟨b2, o2, none⟩) j n2) (n2 - j) (n2 - j)])) rfl (by kernel_rfl) (by kernel_rfl) (by kernel_rfl) (fun _ _ _ h => h) (.inl ⟨by kernel_rfl, fun w9 hS => by kernel_rfl⟩) HS0 ?_
      refine wpAnyH_take (i := 14) (v := (.int .i64 (E : Int))) rfl (by kernel_rfl) (by kernel_rfl) (by kernel_rfl) (fun _ _ _ h => h) (.inl ⟨by kernel_rfl, fun w9 hS => by kernel_rfl⟩) HS0 ?_
      have HS1 : (fun w' : World => w'.cell? ⟨b2, o2, none⟩ = some (.int .u8 d)) (((World.drew w2).setCell ⟨w.heap.size, 0, none⟩ (.int .i64 d)).setCell ⟨w.heap.size, 1, none⟩ (.slice (sl (some ⟨b2, o2, none⟩) j n2) (n2 - j) (n2 - j))) := by
        show World.cell? _ _ = _
        rw [cell_set_far (p := ⟨b2, o2, none⟩) (hne := hne), cell_set_far (p := ⟨b2, o2, none⟩) (hne := hne)]
        exact hcell
      refine wpAnyH_one (i := 15) (by kernel_rfl) (wpOp_skip (w' := (((World.drew w2).setCell ⟨w.heap.size, 0, none⟩ (.int .i64 d)).setCell ⟨w.heap.size, 1, none⟩ (.slice (sl (some ⟨b2, o2, none⟩) j n2) (n2 - j) (n2 - j)))) rfl (by kernel_rfl) (by have g0 : (World.drew w2).cell? ⟨w.heap.size, 0, none⟩ = some (.int .i64 0) := c0; have g1 : (World.drew w2).cell? ⟨w.heap.size, 1, none⟩ = some (.slice none 0 0) := c1; have k0 : (World.drew w2).frozen? ⟨w.heap.size, 0, none⟩ = false := f0; have k1 : (World.drew w2).frozen? ⟨w.heap.size, 1, none⟩ = false := f1; go_simp) ⟨HS1, ?_⟩)
      refine wpAnyH_take (i := 16) (v := (.int .i64 (E : Int))) rfl (by kernel_rfl) (by kernel_rfl) (by kernel_rfl) (fun _ _ _ h => h) (.inl ⟨by kernel_rfl, fun w9 hS => by kernel_rfl⟩) HS1 ?_
      refine wpAnyH_take (i := 17) (v := (.int .i64 0)) rfl (by kernel_rfl) (by kernel_rfl) (by kernel_rfl) (fun _ _ _ h => h) (.inl ⟨by kernel_rfl, fun w9 hS => by kernel_rfl⟩) HS1 ?_
      refine wpAnyH_done (by kernel_rfl) ?_ _
      clear c0 c1 f0 f1 hcell HS0 HS1
      go_wp2
      refine bodyPost_ret (ret_rec_of (x := .int .i64 (E : Int)) (y := .int .i64 0) rfl w.heap.size d (sl (some ⟨b2, o2, none⟩) j n2) (n2 - j) (n2 - j) (by kernel_rfl) (by kernel_rfl) (by kernel_rfl) (by simpa using ((K2.out.drew.set 0 (.int .i64 d)).set 1 (.slice (sl (some ⟨b2, o2, none⟩) j n2) (n2 - j) (n2 - j))))) (by kernel_rfl) ?_
      have Hrow : RowIn .u8 (((World.drew w2).setCell ⟨w.heap.size, 0, none⟩ (.int .i64 d)).setCell ⟨w.heap.size, 1, none⟩ (.slice (sl (some ⟨b2, o2, none⟩) j n2) (n2 - j) (n2 - j))) (sl (some ⟨b2, o2, none⟩) j n2) (n2 - j) ((O.take n2).drop j) := row_set (row_set RB.out.drew (inB_ne IB.out K2.out) _ _) (inB_ne IB.out K2.out) _ _
      exact .yes HG.out LB.out Hrow NB.out (inB_set (inB_set IB.out.drew (inB_ne IB.out K2.out) _ _) (inB_ne IB.out K2.out) _ _) (below_store W2.out.drew (Nat.le_refl _) _ _ _ _)
end Go.Proofs.Ytnpgjndhkmpciaa
