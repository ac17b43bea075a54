/-
  Walks of moorings/mooringsref05.ends and of the document's Get, at every slice of bytes and every place.
-/
import Derived.Test.YtnpgjndhkmpciaaRGet
import Derived.Test.YtnpgjndhkmpciaaVRefGet
import Derived.Test.YtnpgjndhkmpciaaCRef2
namespace Go.Proofs.Ytnpgjndhkmpciaa
open Go.RowKit

/-- Bytes that end in the midst of a number. -/
def R.brk (T : List Int) : Prop := T.length < 6 ∧ R.on T
instance (T : List Int) : Decidable (R.brk T) := inferInstanceAs (Decidable (T.length < 6 ∧ R.on T))
theorem R.cut_brk {L : List Int} {q : Nat} (h : q < L.length) : R.cut (L.drop q) ↔ R.brk (L.drop (q + 1)) := by
  unfold R.cut R.brk R.on
  rw [List.tail_drop]
  have hne : L.drop q ≠ [] := by intro he; have := congrArg List.length he; simp at this; omega
  simp [hne]
theorem R.seg_step {L : List Int} {q k : Nat} {x : Int} (h : R.on ((L.take k).drop q)) (hq : q ≤ k) (hk : k < L.length) (hx : L.getD k 0 = x) (hd : decide (x < 128) = false) : R.on ((L.take (k + 1)).drop q) := by
  rw [take_snoc hk, hx, List.drop_append_of_le_length (by simp; omega)]
  intro d hd'
  rcases List.mem_append.1 hd' with h1 | h1
  · exact h d h1
  · simp only [List.mem_singleton] at h1; subst h1
    have := of_decide_eq_false hd
    omega
theorem R.seg_bad {L : List Int} {q k : Nat} {x : Int} (hq : q ≤ k) (hk : k < L.length) (hx : L.getD k 0 = x) (hd : decide (x < 128) = true) : decide (R.brk (L.drop q)) = false := by
  refine decide_eq_false ?_
  rintro ⟨_, h⟩
  have hm : x ∈ L.drop q := by
    rw [← hx]
    have hm := List.getElem_mem (l := L.drop q) (n := k - q) (by simp; omega)
    simpa [show q + (k - q) = k by omega, hk] using hm
  have := h x hm
  have := of_decide_eq_true hd
  omega

set_option maxRecDepth 100000 in
theorem ends_any (a : Option Addr) (len cap q : Nat) (L : List Int) (b : Bool) (w : World) (h9 : len ≤ 90000) (hl : L.length = len) (h : RowIn .u8 w a cap L) (hq : q ≤ len) (hb : decide (R.brk (L.drop q)) = b) :
    Calls Try.prog 28 #[.slice a len cap, .int .i64 (q : Int)] w fun e w' => e = .returned (.bool (!b)) ∧ w = w' := by
  have HL := Lib.hid hl
  have HR := Lib.hid h
  have HB := Lib.hid hb
  clear hl h hb
  go_enter Try.func28, Try.ntmps28
  go_wp2
  go_loop [5] (fun i => ∃ k : Nat, i = .int .i64 (k : Int) ∧ q ≤ k ∧ k ≤ q + 6 ∧ k ≤ len ∧ Hid (R.on ((L.take k).drop q))) (fun i => q + 6 - (intOf i).toNat)
  case atStart => exact ⟨q, rfl, by omega, by omega, hq, Lib.hid (by rw [List.drop_eq_nil_of_le (by simp; omega)]; intro c hc; cases hc)⟩
  case round =>
    obtain ⟨k, rfl, hqk, hk6, hkl, HT⟩ := hrel
    by_cases hlt : k < len
    · have d1 : decide ((k : Int) < (len : Int)) = true := by simp; omega
      by_cases h6 : k < q + 6
      · obtain ⟨bb, off, rfl, hb, hc⟩ := row_at HR.out (i := k) (by rw [HL.out]; exact hlt)
        obtain ⟨x, hx⟩ : ∃ x, L.getD k 0 = x := ⟨_, rfl⟩
        rw [hx] at hc
        have HX := Lib.hid hx
        have d2 : decide ((k : Int) < (q : Int) + 6) = true := by simp; omega
        clear hx
        by_cases hx1 : x < 128
        · have HC := Lib.hid (R.seg_bad hqk (by rw [HL.out]; exact hlt) HX.out (decide_eq_true hx1))
          go_wp2
          go_ret
          exact ⟨by rw [← HB.out, HC.out]; rfl, rfl⟩
        · have d3 : decide (x < 128) = false := by simp; omega
          have HC := Lib.hid (R.seg_step HT.out hqk (by rw [HL.out]; exact hlt) HX.out d3)
          go_wp2
          go_round
          case rel => exact ⟨k + 1, by go_num, by omega, by omega, by omega, HC⟩
          case measure => simp [intOf]; omega
      · have d2 : decide ((k : Int) < (q : Int) + 6) = false := by simp; omega
        have d3 : decide ((6 : Int) ≤ (len : Int) - (q : Int)) = true := by simp; omega
        have HC : Hid (b = false) := Lib.hid (by rw [← HB.out]; exact decide_eq_false (fun h => by have := h.1; simp [HL.out] at this; omega))
        go_wp2
        go_ret
        exact ⟨by rw [HC.out]; rfl, rfl⟩
    · have d1 : decide ((k : Int) < (len : Int)) = false := by simp; omega
      by_cases h6 : 6 ≤ len - q
      · have d3 : decide ((6 : Int) ≤ (len : Int) - (q : Int)) = true := by simp; omega
        have HC : Hid (b = false) := Lib.hid (by rw [← HB.out]; exact decide_eq_false (fun h => by have := h.1; simp [HL.out] at this; omega))
        go_wp2
        go_ret
        exact ⟨by rw [HC.out]; rfl, rfl⟩
      · have d3 : decide ((6 : Int) ≤ (len : Int) - (q : Int)) = false := by simp; omega
        have HC : Hid (b = true) := Lib.hid (by
          rw [← HB.out]
          refine decide_eq_true ⟨by simp [HL.out]; omega, ?_⟩
          have := HT.out
          rwa [List.take_of_length_le (by rw [HL.out]; omega)] at this)
        go_wp2
        go_ret
        exact ⟨by rw [HC.out]; rfl, rfl⟩

theorem slice2_run (a : Option Addr) {len cap l h : Nat} (h1 : l ≤ h) (h2 : h ≤ cap) (w : World) :
    (Instr.sliceAt 22 (.slice a len cap) (some (.int .i64 (l : Int))) (some (.int .i64 (h : Int))) none).run Try.prog w = .ok (.slice (sl a l cap) (h - l) (cap - l)) w := by
  rw [run_sliceAt_slice (w := w) (h := Try.underlying22), run_slice_lh (w := w) (ht := Try.underlying22) (h0 := by omega) (h1 := by omega) (h2 := by omega)]
  have hs : (sizeOf (Try.prog.elem 22)).run Try.prog w = .ok 1 w := rfl
  rw [hs]
  simp [Result.andThen, sliced, sl]
/-- A part of bytes by two numbers, as an operation of a region. -/
theorem exec_slice2 {o : Oper} {ρ : Operand → Value} {x lo hi : Operand} {a : Option Addr} {len cap l h : Nat} (ho : o.op = .slice 22 x (some lo) (some hi) none) (hx : ρ x = .slice a len cap) (hlo : ρ lo = .int .i64 (l : Int)) (hhi : ρ hi = .int .i64 (h : Int))
    (h1 : l ≤ h) (h2 : h ≤ cap) (w : World) : (execOp ρ o).run Try.prog w = .ok (.value (.slice (sl a l cap) (h - l) (cap - l))) w := by
  unfold execOp
  simp only [ho, Option.map_some, Option.map_none, hx, hlo, hhi, Sem.run_bind, slice2_run a h1 h2 w, Result.andThen, Sem.run_pure]

/-- What stands at a place, by places. -/
theorem R.got {L : List Int} {q k n f E : Nat} (hc : ¬ R.cut (L.drop q)) (hm : M.head (L.drop q).tail = some ((n : Int), k)) (hn : n ≤ 1000) (hf : f = q + 1 + k) (hE : E = q + 1 + k + n + 4) (hl : E ≤ L.length) (hO : (C.open ((L.take E).drop q)).isSome = true) :
    R.get L q = (0, (L.getD q 0, (L.take (f + n)).drop f), (E : Int)) := by
  have hD : (L.take E).drop q = (L.drop q).take (1 + k + n + 4) := by rw [List.drop_take]; congr 1; omega
  rw [hD] at hO
  have := R.get_ok (L := L) (p := q) (by omega) (R.head_yes hc hm (by omega) (by simp; omega) (by rw [Int.toNat_natCast]; exact hO))
  rw [this, Int.toNat_natCast]
  have e1 : (L.drop q).headD 0 = L.getD q 0 := by
    cases hq : L.drop q with
    | nil => have := congrArg List.length hq; simp at this; omega
    | cons d t =>
      have : (L.drop q).getD 0 0 = L.getD q 0 := by simp
      rw [← this, hq]; rfl
  have e2 : ((L.drop q).drop (1 + k)).take n = (L.take (f + n)).drop f := by
    rw [List.drop_take, List.drop_drop, hf]
    congr 1
    · omega
    · congr 1; omega
  rw [e1, e2]
  congr 2
  omega

set_option maxRecDepth 100000 in
theorem refRec_out (a : Option Addr) (len cap : Nat) (p : Int) (L : List Int) (w : World) (hl : L.length = len) (h : p < 0 ∨ (len : Int) < p) :
    Calls Try.prog 15 #[.slice a len cap, .int .i64 p] w (GetRec L p w) := by
  have HG := Lib.hid (R.get_out (L := L) (p := p) (by omega))
  clear hl
  by_cases h0 : p < 0
  · clear h
    go_enter Try.func15, Try.ntmps15
    go_wp2
    refine bodyPost_ret (ret_rec (g := w.heap.size) rfl _ _ _ _ _ _ rfl (Blok.new w _ _)) rfl ?_
    exact .no HG.out (recNew_below w)
  · have h1 : (len : Int) < p := by omega
    have h0' : decide (p < 0) = false := by simp; omega
    clear h
    go_enter Try.func15, Try.ntmps15
    go_wp2
    refine bodyPost_ret (ret_rec (g := w.heap.size) rfl _ _ _ _ _ _ rfl (Blok.new w _ _)) rfl ?_
    exact .no HG.out (recNew_below w)

set_option maxRecDepth 100000 in
theorem refRec_last (a : Option Addr) (len cap : Nat) (L : List Int) (w : World) (hl : L.length = len) :
    Calls Try.prog 15 #[.slice a len cap, .int .i64 (len : Int)] w (GetRec L len w) := by
  have HG := Lib.hid (R.get_err (L := L) (p := len) (e := 4) (by omega) (by decide) (R.head_cut (.inl (List.drop_eq_nil_of_le (by omega)))))
  have h0 : decide ((len : Int) < 0) = false := by simp
  clear hl
  go_enter Try.func15, Try.ntmps15
  go_wp2
  refine bodyPost_ret (ret_rec (g := w.heap.size) rfl _ _ _ _ _ _ rfl (Blok.new w _ _)) rfl ?_
  exact .no HG.out (recNew_below w)

set_option maxRecDepth 100000 in
theorem refRec_cut (bb off len cap q : Nat) (L : List Int) (w : World) (h9 : len ≤ 90000) (hl : L.length = len) (h : RowIn .u8 w (some ⟨bb, off, none⟩) cap L) (hq : q < len) (hc : R.cut (L.drop q)) :
    Calls Try.prog 15 #[.slice (some ⟨bb, off, none⟩) len cap, .int .i64 (q : Int)] w (GetRec L q w) := by
  have HL := Lib.hid hl
  have HR := Lib.hid h
  have h0 : decide ((q : Int) < 0) = false := by simp
  have h1 : decide ((len : Int) < (q : Int)) = false := by simp; omega
  have h2 : ((q : Int) == (len : Int)) = false := by simp; omega
  have hq1 : q + 1 ≤ len := by omega
  have HG := Lib.hid (R.get_err (L := L) (p := q) (e := 4) (by omega) (by decide) (R.head_cut hc))
  have HBK : Hid (decide (R.brk (L.drop (q + 1))) = true) := Lib.hid (decide_eq_true ((R.cut_brk (by omega)).1 hc))
  clear hl h hc
  go_enter Try.func15, Try.ntmps15
  go_wp2_with fail
  refine (ends_any _ len _ (q + 1) L true (recNew w) h9 HL.out (HR.out.below (recNew_below w)) hq1 HBK.out).mono ?_
  rintro e w1 ⟨rfl, rfl⟩
  unfold recNew
  go_wp2
  refine bodyPost_ret (ret_rec (g := w.heap.size) rfl _ _ _ _ _ _ rfl (Blok.new w _ _)) rfl ?_
  exact .no HG.out (recNew_below w)

set_option maxRecDepth 100000 in
theorem refRec_form (bb off len cap q : Nat) (L : List Int) (w : World) (h9 : len ≤ 90000) (hl : L.length = len) (h : RowIn .u8 w (some ⟨bb, off, none⟩) cap L) (hq : q < len) (hc : ¬ R.cut (L.drop q)) (x y : Int) (hm : M.get L ((q : Int) + 1) = (x, y)) (hxy : y < 0 ∨ (0 ≤ y ∧ 1000 < x)) (hg : R.get L q = (2, (0, []), 0)) :
    Calls Try.prog 15 #[.slice (some ⟨bb, off, none⟩) len cap, .int .i64 (q : Int)] w (GetRec L q w) := by
  have HL := Lib.hid hl
  have HR := Lib.hid h
  have h0 : decide ((q : Int) < 0) = false := by simp
  have h1 : decide ((len : Int) < (q : Int)) = false := by simp; omega
  have h2 : ((q : Int) == (len : Int)) = false := by simp; omega
  have hq1 : q + 1 ≤ len := by omega
  have HG := Lib.hid hg
  have HM := Lib.hid hm
  have HBK : Hid (decide (R.brk (L.drop (q + 1))) = false) := Lib.hid (decide_eq_false (fun hb => hc ((R.cut_brk (by omega)).2 hb)))
  clear hl h hc hg hm
  rcases hxy with hy | ⟨hy, hx⟩
  · go_enter Try.func15, Try.ntmps15
    go_wp2_with fail
    refine (ends_any _ len _ (q + 1) L false (recNew w) h9 HL.out (HR.out.below (recNew_below w)) hq1 HBK.out).mono ?_
    rintro e w1 ⟨rfl, rfl⟩
    go_wp2_with fail
    refine (getIs_of (p := (q : Int) + 1) HM.out (refGet_any _ len _ _ L _ HL.out (HR.out.below (recNew_below w)))).mono ?_
    rintro e w1 ⟨rfl, rfl⟩
    unfold recNew
    go_wp2
    refine bodyPost_ret (ret_rec (g := w.heap.size) rfl _ _ _ _ _ _ rfl (Blok.new w _ _)) rfl ?_
    exact .no HG.out (recNew_below w)
  · have hy0 : decide (y < 0) = false := by simp; omega
    go_enter Try.func15, Try.ntmps15
    go_wp2_with fail
    refine (ends_any _ len _ (q + 1) L false (recNew w) h9 HL.out (HR.out.below (recNew_below w)) hq1 HBK.out).mono ?_
    rintro e w1 ⟨rfl, rfl⟩
    go_wp2_with fail
    refine (getIs_of (p := (q : Int) + 1) HM.out (refGet_any _ len _ _ L _ HL.out (HR.out.below (recNew_below w)))).mono ?_
    rintro e w1 ⟨rfl, rfl⟩
    unfold recNew
    go_wp2
    refine bodyPost_ret (ret_rec (g := w.heap.size) rfl _ _ _ _ _ _ rfl (Blok.new w _ _)) rfl ?_
    exact .no HG.out (recNew_below w)

set_option maxRecDepth 100000 in
theorem refRec_few (bb off len cap q : Nat) (L : List Int) (w : World) (h9 : len ≤ 90000) (hl : L.length = len) (h : RowIn .u8 w (some ⟨bb, off, none⟩) cap L) (hq : q < len) (hc : ¬ R.cut (L.drop q)) (f n : Nat) (hm : M.get L ((q : Int) + 1) = ((n : Int), (f : Int))) (hn : n ≤ 1000) (hfl : f ≤ len) (hf : len < f + n + 4) (hg : R.get L q = (4, (0, []), 0)) :
    Calls Try.prog 15 #[.slice (some ⟨bb, off, none⟩) len cap, .int .i64 (q : Int)] w (GetRec L q w) := by
  have HL := Lib.hid hl
  have HR := Lib.hid h
  have h0 : decide ((q : Int) < 0) = false := by simp
  have h1 : decide ((len : Int) < (q : Int)) = false := by simp; omega
  have h2 : ((q : Int) == (len : Int)) = false := by simp; omega
  have hq1 : q + 1 ≤ len := by omega
  have HG := Lib.hid hg
  have HM := Lib.hid hm
  have HBK : Hid (decide (R.brk (L.drop (q + 1))) = false) := Lib.hid (decide_eq_false (fun hb => hc ((R.cut_brk (by omega)).2 hb)))
  have d1 : decide (1000 < (n : Int)) = false := by simp; omega
  have d0 : ¬ ((f : Int) < 0) := by omega
  have d2 : (len : Int) - (f : Int) < (n : Int) + 4 := by omega
  clear hl h hc hg hm
  go_enter Try.func15, Try.ntmps15
  go_wp2_with fail
  refine (ends_any _ len _ (q + 1) L false (recNew w) h9 HL.out (HR.out.below (recNew_below w)) hq1 HBK.out).mono ?_
  rintro e w1 ⟨rfl, rfl⟩
  go_wp2_with fail
  refine (getIs_of (p := (q : Int) + 1) HM.out (refGet_any _ len _ _ L _ HL.out (HR.out.below (recNew_below w)))).mono ?_
  rintro e w1 ⟨rfl, rfl⟩
  unfold recNew
  go_wp2
  refine bodyPost_ret (ret_rec (g := w.heap.size) rfl _ _ _ _ _ _ rfl (Blok.new w _ _)) rfl ?_
  exact .no HG.out (recNew_below w)

set_option maxRecDepth 100000 in
theorem refRec_in (bb off len cap q : Nat) (L : List Int) (w : World) (h9 : len ≤ 90000) (hl : L.length = len) (h : RowIn .u8 w (some ⟨bb, off, none⟩) cap L) (hq : q < len) (hc : ¬ R.cut (L.drop q)) (f n E k : Nat) (hf : f = q + 1 + k) (hE : E = q + 1 + k + n + 4) (hm : M.head (L.drop q).tail = some ((n : Int), k)) (hn : n ≤ 1000) (hle : E ≤ len) :
    Calls Try.prog 15 #[.slice (some ⟨bb, off, none⟩) len cap, .int .i64 (q : Int)] w (GetRec L q w) := by
  have HL := Lib.hid hl
  have HR := Lib.hid h
  have h0 : decide ((q : Int) < 0) = false := by simp
  have h1 : decide ((len : Int) < (q : Int)) = false := by simp; omega
  have h2 : ((q : Int) == (len : Int)) = false := by simp; omega
  have hq1 : q + 1 ≤ len := by omega
  have HM : Hid (M.get L ((q : Int) + 1) = ((n : Int), (f : Int))) := Lib.hid (by
    have := get_some (L := L) (q := q + 1) (n := n) (e := k) (by rw [← List.tail_drop]; exact hm)
    rw [hf]
    simpa using this)
  have HBK : Hid (decide (R.brk (L.drop (q + 1))) = false) := Lib.hid (decide_eq_false (fun hb => hc ((R.cut_brk (by omega)).2 hb)))
  have hcap : len ≤ cap ∧ cap ≤ maxLen := by have := h.1; omega
  have d1 : decide (1000 < (n : Int)) = false := by simp; omega
  have d0 : decide ((f : Int) < 0) = false := by simp
  have d2 : decide ((len : Int) - (f : Int) < (n : Int) + 4) = false := by simp; omega
  have d3 : (f : Int) + (n : Int) + 4 = (E : Int) := by omega
  have hqE : q < E := by omega
  have hqE1 : q ≤ E := by omega
  have hEc : E ≤ cap := by omega
  have hqc : ¬ cap = q := by omega
  have hqc' : ¬ q = cap := by omega
  have hsl : sl (some ⟨bb, off, none⟩) q cap = some ⟨bb, off + q, none⟩ := by unfold sl; rw [if_neg hqc]; simp [WideShapes.add_plain]
  have HP : Hid (RowIn .u8 (recNew w) (some ⟨bb, off + q, none⟩) (cap - q) ((L.take E).drop q)) := Lib.hid (by
    rw [← hsl]
    exact row_sliced (h.below (recNew_below w)) (by omega) (by omega) (by omega) (by omega))
  have LP : Hid (((L.take E).drop q).length = E - q) := Lib.hid (by simp; omega)
  have HF := Lib.hid hf
  have HEE := Lib.hid hE
  have HMM := Lib.hid hm
  have HNC := Lib.hid hc
  have hfn : f + n ≤ len := by omega
  have hE9 : E - q ≤ 90000 := by omega
  have hEl : E ≤ L.length := by omega
  clear hl h hc hm hf hE
  go_enter Try.func15, Try.ntmps15
  go_wp2_with fail
  refine (ends_any _ len _ (q + 1) L false (recNew w) h9 HL.out (HR.out.below (recNew_below w)) hq1 HBK.out).mono ?_
  rintro e w1 ⟨rfl, rfl⟩
  go_wp2_with fail
  refine (getIs_of (p := (q : Int) + 1) HM.out (refGet_any _ len _ _ L _ HL.out (HR.out.below (recNew_below w)))).mono ?_
  rintro e w1 ⟨rfl, rfl⟩
  go_wp2_with fail
  refine (refOpen_any _ (E - q) _ _ (recNew w) hE9 LP.out HP.out).mono ?_
  rintro e w2 ⟨a2, c2, n2, rfl, l2, r2, hb2⟩
  have c0 := recNew_kind w hb2
  have c1 := recNew_body w hb2
  have f0 := recNew_frozen w hb2 0
  have f1 := recNew_frozen w hb2 1
  have K2 := Lib.hid (recNew_blok w hb2)
  have B2 := Lib.hid hb2
  have W2 := Lib.hid ((recNew_below w).trans (hb2.mono (recNew_below w).size))
  clear hb2 l2 r2
  cases hO : (C.open ((L.take E).drop q)).isSome with
  | false =>
    have HG := Lib.hid (R.shut HNC.out HMM.out hn HEE.out hEl (by simpa using hO))
    clear hO
    go_wp2
    refine bodyPost_ret (ret_rec (g := w.heap.size) rfl _ _ _ _ _ _ rfl (by simpa using ((K2.out.set 0 (.int .i64 0)).set 1 (.slice none 0 0)))) rfl ?_
    exact .no HG.out (below_store W2.out (Nat.le_refl _) _ _ _ _)
  | true =>
    obtain ⟨i0, hi, hz0, hz1, hz2⟩ := info_parts info5
    have HG0 := R.got HNC.out HMM.out hn HF.out HEE.out hEl hO
    obtain ⟨d, hd⟩ : ∃ d, L.getD q 0 = d := ⟨_, rfl⟩
    have HR2 := HR.out.below W2.out
    obtain ⟨bb', off', he, hbb, hcell⟩ := row_at HR2 (i := q) (by rw [HL.out]; omega)
    cases he
    rw [hd] at hcell HG0
    have HG := Lib.hid HG0
    have hdb : 0 ≤ d ∧ d ≤ 255 := by rw [← hd]; exact byte_of HR2.2.1 _ (by simp [show q < L.length by rw [HL.out]; omega])
    have hwd : IntKind.i64.wrap d = d := wrap_small (by omega) (by omega)
    have hwf : IntKind.i64.wrap ((f : Int) + (n : Int)) = ((f + n : Nat) : Int) := by rw [wrap_small (by omega) (by omega)]; omega
    have hwE : IntKind.i64.wrap (((f + n : Nat) : Int) + 4) = (E : Int) := by rw [wrap_small (by omega) (by omega)]; omega
    obtain ⟨ad, had⟩ : ∃ ad, sl (some ⟨bb, off, none⟩) f cap = some ad := by
      cases hx : sl (some ⟨bb, off, none⟩) f cap with
      | none => have := sl_none hx; cases this
      | some ad => exact ⟨ad, rfl⟩
    have LB : Hid (((L.take (f + n)).drop f).length = n) := Lib.hid (by have := HL.out; simp; omega)
    have RB : Hid (RowIn .u8 w2 (some ad) (cap - f) ((L.take (f + n)).drop f)) := Lib.hid (by
      rw [← had]
      exact row_sliced HR2 (by omega) (by rw [HL.out]; omega) (by omega) (by omega))
    have hbw : bb < w.heap.size := by
      obtain ⟨b3, o3, he3, hb3, _⟩ := row_at HR.out (i := q) (by rw [HL.out]; omega)
      cases he3
      exact hb3
    have hne : (⟨bb, off + q, none⟩ : Addr).block ≠ w.heap.size := Nat.ne_of_lt hbw
    have hfn2 : f + n - f = n := by omega
    have hnl : n ≤ maxLen := by unfold maxLen; omega
    have hnb : n * 1 ≤ 140737488355328 := by omega
    have hfc : f + n ≤ cap := by omega
    have hff : f ≤ f + n := by omega
    clear hO HG0 hd HR2
    go_wp2_with fail
    refine wp_region_held (S := (fun w' : World => w'.cell? ⟨bb, off + q, none⟩ = some (.int .u8 d))) (by kernel_rfl) ?_
    change wpAnyH _ _ _ _ _ _ _ _ (World.drew w2)
    have HS0 : (fun w' : World => w'.cell? ⟨bb, off + q, none⟩ = some (.int .u8 d)) (World.drew w2) := hcell
    refine wpAnyH_take (i := 0) (v := (.slice (some ⟨bb, off, none⟩) len cap)) rfl (by kernel_rfl) (by kernel_rfl) (by kernel_rfl) (fun _ _ _ h => h) (.inl ⟨by kernel_rfl, fun w9 hS => by kernel_rfl⟩) HS0 ?_
    refine wpAnyH_take (i := 1) (v := (.int .i64 (q : Int))) rfl (by kernel_rfl) (by kernel_rfl) (by kernel_rfl) (fun _ _ _ h => h) (.inl ⟨by kernel_rfl, fun w9 hS => by kernel_rfl⟩) HS0 ?_
    refine wpAnyH_take (i := 2) (v := (.pointer (some ⟨bb, off + q, none⟩))) rfl (by kernel_rfl) (by kernel_rfl) (by kernel_rfl) (fun _ _ _ h => h) (.inl ⟨by kernel_rfl, fun w9 hS => by go_simp⟩) HS0 ?_
    refine wpAnyH_take (i := 3) (v := (.int .u8 d)) rfl (by kernel_rfl) (by kernel_rfl) (by kernel_rfl) (fun _ _ _ h => h) (.inl ⟨by kernel_rfl, fun w9 hS => by have c : w9.cell? ⟨bb, off + q, none⟩ = some (.int .u8 d) := hS; go_simp⟩) HS0 ?_
    refine wpAnyH_take (i := 4) (v := (.int .i64 d)) rfl (by kernel_rfl) (by kernel_rfl) (by kernel_rfl) (fun _ _ _ h => h) (.inl ⟨by kernel_rfl, fun w9 hS => (show _ = Result.ok (.value (.int .i64 (IntKind.i64.wrap d))) w9 by kernel_rfl).trans (by rw [hwd])⟩) HS0 ?_
    refine wpAnyH_take (i := 5) (v := (.slice (some ⟨bb, off, none⟩) len cap)) rfl (by kernel_rfl) (by kernel_rfl) (by kernel_rfl) (fun _ _ _ h => h) (.inl ⟨by kernel_rfl, fun w9 hS => by kernel_rfl⟩) HS0 ?_
    refine wpAnyH_take (i := 6) (v := (.int .i64 (f : Int))) rfl (by kernel_rfl) (by kernel_rfl) (by kernel_rfl) (fun _ _ _ h => h) (.inl ⟨by kernel_rfl, fun w9 hS => by kernel_rfl⟩) HS0 ?_
    refine wpAnyH_take (i := 7) (v := (.int .i64 (f : Int))) rfl (by kernel_rfl) (by kernel_rfl) (by kernel_rfl) (fun _ _ _ h => h) (.inl ⟨by kernel_rfl, fun w9 hS => by kernel_rfl⟩) HS0 ?_
    refine wpAnyH_take (i := 8) (v := (.int .i64 (n : Int))) rfl (by kernel_rfl) (by kernel_rfl) (by kernel_rfl) (fun _ _ _ h => h) (.inl ⟨by kernel_rfl, fun w9 hS => by kernel_rfl⟩) HS0 ?_
    refine wpAnyH_take (i := 9) (v := (.int .i64 ((f + n : Nat) : Int))) rfl (by kernel_rfl) (by kernel_rfl) (by kernel_rfl) (fun _ _ _ h => h) (.inl ⟨by kernel_rfl, fun w9 hS => (show _ = Result.ok (.value (.int .i64 (IntKind.i64.wrap ((f : Int) + (n : Int))))) w9 by kernel_rfl).trans (by rw [hwf])⟩) HS0 ?_
    refine wpAnyH_take (i := 10) (v := (.slice (some ad) n (cap - f))) rfl (by kernel_rfl) (by kernel_rfl) (by kernel_rfl) (fun _ _ _ h => h) (.inl ⟨by kernel_rfl, fun w9 hS => (exec_slice2 (a := some ⟨bb, off, none⟩) (len := len) (cap := cap) (l := f) (h := f + n) rfl (by kernel_rfl) (by kernel_rfl) (by kernel_rfl) hff hfc w9).trans (by rw [had, hfn2])⟩) HS0 ?_
    refine wpAnyH_take (i := 13) (v := (.int .i64 (f : Int))) rfl (by kernel_rfl) (by kernel_rfl) (by kernel_rfl) (fun _ _ _ h => h) (.inl ⟨by kernel_rfl, fun w9 hS => by kernel_rfl⟩) HS0 ?_
    refine wpAnyH_take (i := 14) (v := (.int .i64 (n : Int))) rfl (by kernel_rfl) (by kernel_rfl) (by kernel_rfl) (fun _ _ _ h => h) (.inl ⟨by kernel_rfl, fun w9 hS => by kernel_rfl⟩) HS0 ?_
    refine wpAnyH_take (i := 15) (v := (.int .i64 ((f + n : Nat) : Int))) rfl (by kernel_rfl) (by kernel_rfl) (by kernel_rfl) (fun _ _ _ h => h) (.inl ⟨by kernel_rfl, fun w9 hS => (show _ = Result.ok (.value (.int .i64 (IntKind.i64.wrap ((f : Int) + (n : Int))))) w9 by kernel_rfl).trans (by rw [hwf])⟩) HS0 ?_
    refine wpAnyH_take (i := 16) (v := (.int .i64 (E : Int))) rfl (by kernel_rfl) (by kernel_rfl) (by kernel_rfl) (fun _ _ _ h => h) (.inl ⟨by kernel_rfl, fun w9 hS => (show _ = Result.ok (.value (.int .i64 (IntKind.i64.wrap (((f + n : Nat) : Int) + 4)))) w9 by kernel_rfl).trans (by rw [hwE])⟩) HS0 ?_
    refine wpAnyH_one (i := 11) (by kernel_rfl) (wpOp_append rfl (by kernel_rfl) _ _ 22 (by rfl) w2.heap.size 5 i0 (.int .u8 0) 1 Try.underlying22 hi hz0 hz1 hz2 rfl (.slice none 0 0) 0 [] (by kernel_rfl) (World.ownsRow_nil _ _ _ _) .u8 ad n (cap - f) ((L.take (f + n)).drop f) (by kernel_rfl) RB.out.drew LB.out (by omega) (by omega) (Nat.le_refl _) ?_)
    intro v3 w3 hown3 hgrow3
    have hb3 : Below w2.heap.size w2 w3 := (below_drew w2).grown hgrow3 (Nat.le_refl _) (fun k ek => by cases ek)
    have HS3 : (fun w' : World => w'.cell? ⟨bb, off + q, none⟩ = some (.int .u8 d)) w3 := (hb3.cell (p := ⟨bb, off + q, none⟩) (Nat.lt_of_lt_of_le hbw W2.out.size)).trans hcell
    rw [Nat.zero_add, List.nil_append] at hown3
    obtain ⟨a3, c3, rfl, r3, n3⟩ := own_row3 hown3 RB.out.2.1
    have i3 := own_inB hown3
    have hbN := B2.out.trans (hb3.mono B2.out.size)
    have g0 := recNew_kind w hbN
    have g1 := recNew_body w hbN
    have k0 := recNew_frozen w hbN 0
    have k1 := recNew_frozen w hbN 1
    have K3 := Lib.hid (recNew_blok w hbN)
    have W3 := Lib.hid (W2.out.trans (hb3.mono W2.out.size))
    refine ⟨HS3, ?_⟩
    have hne3 := inB_ne i3 K3.out
    have Hrow : Hid (RowIn .u8 ((w3.setCell ⟨w.heap.size, 0, none⟩ (.int .i64 d)).setCell ⟨w.heap.size, 1, none⟩ (.slice a3 n c3)) a3 c3 ((L.take (f + n)).drop f)) := Lib.hid (row_set (row_set r3 hne3 _ _) hne3 _ _)
    have Hinb : Hid (InB ((w3.setCell ⟨w.heap.size, 0, none⟩ (.int .i64 d)).setCell ⟨w.heap.size, 1, none⟩ (.slice a3 n c3)) a3) := Lib.hid (inB_set (inB_set i3 hne3 _ _) hne3 _ _)
    have N3 := Lib.hid n3
    clear hown3 hgrow3 r3 i3 n3 hb3 hbN hne3
    refine wpAnyH_take (i := 12) (v := (.agg #[.int .i64 d, .slice a3 n c3])) rfl (by kernel_rfl) (by kernel_rfl) (by kernel_rfl) (fun _ _ _ h => h) (.inl ⟨by kernel_rfl, fun w9 hS => by kernel_rfl⟩) HS3 ?_
    have HS4 : (fun w' : World => w'.cell? ⟨bb, off + q, none⟩ = some (.int .u8 d)) ((w3.setCell ⟨w.heap.size, 0, none⟩ (.int .i64 d)).setCell ⟨w.heap.size, 1, none⟩ (.slice a3 n c3)) := by
      show World.cell? _ _ = _
      rw [cell_set_far (p := ⟨bb, off + q, none⟩) (hne := hne), cell_set_far (p := ⟨bb, off + q, none⟩) (hne := hne)]
      exact HS3
    refine wpAnyH_one (i := 17) (by kernel_rfl) (wpOp_skip (w' := ((w3.setCell ⟨w.heap.size, 0, none⟩ (.int .i64 d)).setCell ⟨w.heap.size, 1, none⟩ (.slice a3 n c3))) rfl (by kernel_rfl) (by go_simp) ⟨HS4, ?_⟩)
    refine wpAnyH_take (i := 18) (v := (.int .i64 (E : Int))) rfl (by kernel_rfl) (by kernel_rfl) (by kernel_rfl) (fun _ _ _ h => h) (.inl ⟨by kernel_rfl, fun w9 hS => by kernel_rfl⟩) HS4 ?_
    refine wpAnyH_take (i := 19) (v := (.int .i64 0)) rfl (by kernel_rfl) (by kernel_rfl) (by kernel_rfl) (fun _ _ _ h => h) (.inl ⟨by kernel_rfl, fun w9 hS => by kernel_rfl⟩) HS4 ?_
    refine wpAnyH_done (by kernel_rfl) ?_ _
    clear g0 g1 k0 k1 c0 c1 f0 f1 hcell HS0 HS3 HS4
    go_wp2
    refine bodyPost_ret (ret_rec_of (x := .int .i64 (E : Int)) (y := .int .i64 0) rfl w.heap.size d a3 n c3 (by kernel_rfl) (by kernel_rfl) (by kernel_rfl) (by simpa using ((K3.out.set 0 (.int .i64 d)).set 1 (.slice a3 n c3)))) (by kernel_rfl) ?_
    exact .yes HG.out LB.out Hrow.out N3.out Hinb.out (below_store W3.out (Nat.le_refl _) _ _ _ _)

/-- **The document's Get**, at whatever slice of bytes. -/
theorem refRecGet_any (a : Option Addr) (len cap : Nat) (p : Int) (L : List Int) (w : World) (h9 : len ≤ 90000) (hl : L.length = len) (h : RowIn .u8 w a cap L) :
    Calls Try.prog 15 #[.slice a len cap, .int .i64 p] w (GetRec L p w) := by
  by_cases hp : p < 0 ∨ (len : Int) < p
  · exact refRec_out a len cap p L w hl hp
  · obtain ⟨q, rfl⟩ : ∃ q : Nat, p = q := ⟨p.toNat, by omega⟩
    by_cases hq : q = len
    · subst hq
      exact refRec_last a q cap L w hl
    · have hq : q < len := by omega
      obtain ⟨bb, off, rfl, _⟩ := row_at h (i := q) (by omega)
      by_cases hc : R.cut (L.drop q)
      · exact refRec_cut bb off len cap q L w h9 hl h hq hc
      · cases hm : M.head (L.drop q).tail with
        | none => exact refRec_form bb off len cap q L w h9 hl h hq hc 0 (-1) (by have := get_none (L := L) (q := q + 1) (by rw [← List.tail_drop]; exact hm); simpa using this) (.inl (by omega)) (R.get_err (by omega) (by decide) (R.head_none hc hm))
        | some x =>
          obtain ⟨n, k⟩ := x
          have hi := (head_sound (fun c hc => byte_of h.2.1 c (List.mem_of_mem_drop (List.mem_of_mem_tail hc))) hm)
          have hn0 := hi.1.1
          have hk := hi.2.2.2.1
          obtain ⟨m, rfl⟩ : ∃ m : Nat, n = m := ⟨n.toNat, by omega⟩
          have hM : M.get L ((q : Int) + 1) = ((m : Int), ((q + 1 + k : Nat) : Int)) := by
            have := get_some (L := L) (q := q + 1) (n := m) (e := k) (by rw [← List.tail_drop]; exact hm)
            simpa using this
          by_cases hbig : 1000 < (m : Int)
          · exact refRec_form bb off len cap q L w h9 hl h hq hc _ _ hM (.inr ⟨by omega, hbig⟩) (R.get_err (by omega) (by decide) (R.head_big hc hm hbig))
          · by_cases hf : len < q + 1 + k + m + 4
            · exact refRec_few bb off len cap q L w h9 hl h hq hc (q + 1 + k) m hM (by omega) (by simp at hk; omega) hf (R.get_err (by omega) (by decide) (R.head_few hc hm hbig (by simp; omega)))
            · exact refRec_in bb off len cap q L w h9 hl h hq hc (q + 1 + k) m (q + 1 + k + m + 4) k rfl rfl hm (by omega) (by omega)
end Go.Proofs.Ytnpgjndhkmpciaa
