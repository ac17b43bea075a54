/-
  Walks of moorings/zig.Steps and moorings/zig.Sums, for every list and every slice of bytes.
-/
import Derived.Test.YtcppffccbecjpaaZWalk
namespace Go.Proofs.Ytcppffccbecjpaa
open Go.RowKit

theorem Z.pl_snoc : ∀ (q : Int) (l : List Int) (n : Int), Z.pl q (l ++ [n]) = Z.pl q l ++ [Z.zig (n - l.getLastD q)]
  | q, [], n => by simp [Z.pl]
  | q, m :: l, n => by
    rw [List.cons_append, Z.pl, Z.pl, Z.pl_snoc m l n]
    simp [List.getLastD_eq_getLast?]
    cases h : l.getLast? <;> simp [List.getLast?_cons, h]

theorem row_at {k : IntKind} {w : World} {a : Option Addr} {cap i : Nat} {L : List Int} (h : RowIn k w a cap L) (hi : i < L.length) : ∃ b off, a = some ⟨b, off, none⟩ ∧ b < w.heap.size ∧ w.cell? ⟨b, off + i, none⟩ = some (.int k (L.getD i 0)) := by
  rcases h.2.2 with rfl | ⟨b, off, rfl, hb, hc⟩
  · simp at hi
  · exact ⟨b, off, rfl, hb, hc i hi⟩

theorem take_snoc {L : List Int} {k : Nat} (hk : k < L.length) : L.take (k + 1) = L.take k ++ [L.getD k 0] := by
  rw [List.take_succ_eq_append_getElem hk]; simp [hk]

/-- What stands at the head of a round of Steps. -/
def StR (L : List Int) (N : Nat) (w wr : World) (k : Nat) : Prop :=
  (∀ n ∈ L.take k, Z.isl n) ∧ Blok wr N 3 ((filled (Z.pl 0 (L.take k)) L.length).map (Value.int .i64)).toArray ∧ Blok wr (N + 1) 3 #[.int .i64 ((L.take k).getLastD 0)] ∧ Below N w wr

theorem isl_last {l : List Int} (h : ∀ n ∈ l, Z.isl n) : Z.isl (l.getLastD 0) := by
  rw [List.getLastD_eq_getLast?]
  cases hl : l.getLast? with
  | none => simp [Z.isl]
  | some x => exact h x (List.mem_of_getLast? hl)

theorem StR.step {L : List Int} {N : Nat} {w wr w2 : World} {k : Nat} (h : StR L N w wr k) (hk : k < L.length) (hn : Z.isl (L.getD k 0)) (h2 : w2 = wr.setCell ⟨N + 1, 0, none⟩ (.int .i64 (L.getD k 0))) :
    StR L N w (w2.setCell ⟨N, k, none⟩ (.int .i64 (Z.zig (L.getD k 0 - (L.take k).getLastD 0)))) (k + 1) := by
  obtain ⟨h1, hb, hc, hB⟩ := h
  subst h2
  have hlen : (Z.pl 0 (L.take k)).length = k := by rw [Z.pl_len]; simp; omega
  refine ⟨?_, ?_, ?_, (hB.setCell (by simp) _).setCell (by simp) _⟩
  · rw [take_snoc hk]
    intro n hm
    rcases List.mem_append.1 hm with hm | hm
    · exact h1 n hm
    · simp only [List.mem_singleton] at hm; rw [hm]; exact hn
  · have h3 := (hb.far (p := ⟨N + 1, 0, none⟩) (by simp) (.int .i64 (L.getD k 0))).set k (.int .i64 (Z.zig (L.getD k 0 - (L.take k).getLastD 0)))
    have h4 := filled_set (xs := Z.pl 0 (L.take k)) (n := L.length) (by omega) .i64 (Z.zig (L.getD k 0 - (L.take k).getLastD 0))
    rw [hlen] at h4
    rw [h4] at h3
    rw [take_snoc hk, Z.pl_snoc]
    exact h3
  · have h3 := (hc.set 0 (.int .i64 (L.getD k 0))).far (p := ⟨N, k, none⟩) (by simp) (.int .i64 (Z.zig (L.getD k 0 - (L.take k).getLastD 0)))
    rw [take_snoc hk]
    simpa using h3

/-- What Steps returns. -/
def StepsIs (L : List Int) (w : World) (e : Ending) (w' : World) : Prop :=
  ∃ v ok, e = .returned (.tuple #[v, .bool ok]) ∧ ok = (Z.steps L).isSome ∧ w'.ownsRow w.heap.size 5 1 v ((Z.steps L).getD []).length (((Z.steps L).getD []).map (Value.int .u8)) ∧ Below w.heap.size w w'
theorem StepsIs.no {L : List Int} {w w' : World} (h : Z.steps L = none) (hb : Below w.heap.size w w') : StepsIs L w (.returned (.tuple #[.slice none 0 0, .bool false])) w' := by
  refine ⟨_, _, rfl, ?_, ?_, hb⟩ <;> rw [h]
  · rfl
  · exact World.ownsRow_nil _ _ _ _

theorem steps_long_any (a : Option Addr) (len cap : Nat) (L : List Int) (w : World) (hl : L.length = len) (h : 400 < len) :
    Calls Try.prog 11 #[.slice a len cap] w (StepsIs L w) := by
  have hn := Lib.hid (Z.steps_long (L := L) (by omega))
  have h' : decide (400 < (len : Int)) = true := by simp; omega
  clear hl
  go_enter Try.func11, Try.ntmps11
  go_wp2
  go_ret2
  exact .no hn.out (Below.refl _ _)

set_option maxRecDepth 100000 in
set_option maxHeartbeats 1000000 in
theorem steps_in (a : Option Addr) (len cap : Nat) (L : List Int) (w : World) (hl : L.length = len) (h4 : len ≤ 400) (h : RowIn .i64 w a cap L) :
    Calls Try.prog 11 #[.slice a len cap] w (StepsIs L w) := by
  obtain ⟨i0, hi, hz0, hz1, hz2⟩ := info_parts info3
  have HL := Lib.hid hl
  have HR := Lib.hid h
  clear hl h
  have h4' : decide (400 < (len : Int)) = false := by simp; omega
  go_enter Try.func11, Try.ntmps11
  go_wp2_with (first
    | (at_make; refine wpList_make_row _ rfl _ _ 25 rfl 3 i0 (.int .i64 0) Try.underlying25 hi hz0 hz1 rfl .i64 .i64 len rfl rfl (by rw [hz2]; omega) (by omega) ?_)
    | (go_at_call 14; refine (stepper_any _).mono ?_; rintro e w' ⟨rfl, rfl⟩))
  go_loopw [16] (fun i wr => ∃ k : Nat, i = .int .i64 k ∧ k ≤ len ∧ Hid (StR L w.heap.size w wr k)) (fun i _ => len - (intOf i).toNat)
  case atStart =>
    refine ⟨0, rfl, by omega, Lib.hid ⟨by simp, ?_, ?_, ?_⟩⟩
    · have := (Blok.new w 3 (madeCells #[.int .i64 0] len)).alloc (.cells #[.int .i64 0] 3)
      rw [List.take_zero, Z.pl, filled_nil, HL.out, ← made_ints]
      exact this
    · have := Blok.new (w.alloc (.cells (madeCells #[.int .i64 0] len) 3)) 3 #[.int .i64 0]
      rw [World.size_alloc] at this
      exact this
    · exact ((Below.refl _ w).alloc (Nat.le_refl _) _).alloc (by simp) _
  case round =>
    obtain ⟨k, rfl, hk, HS⟩ := hrel
    by_cases hlt : k < len
    · have hkL : k < L.length := by rw [HL.out]; exact hlt
      obtain ⟨b, off, rfl, hb, hc⟩ := row_at HR.out hkL
      obtain ⟨n, hn⟩ : ∃ n, L.getD k 0 = n := ⟨_, rfl⟩
      obtain ⟨p, hp⟩ : ∃ p, (L.take k).getLastD 0 = p := ⟨_, rfl⟩
      have hcell : wr.cell? ⟨b, off + k, none⟩ = some (.int .i64 n) := by rw [← hn]; exact (HS.out.2.2.2.cell (p := ⟨b, off + k, none⟩) hb).trans hc
      have hmem : n ∈ L := by rw [← hn]; simp [hkL]
      have hpi : Z.isl p := by rw [← hp]; exact isl_last HS.out.1
      have HN := Lib.hid hn
      have HP := Lib.hid hp
      have HM := Lib.hid hmem
      have HPI := Lib.hid hpi
      clear hn hp hmem hkL hc hpi
      by_cases hnum : Z.isl n
      · have HI := Lib.hid hnum
        clear hnum
        go_wp2_with (first
          | (go_at_call 15; refine (listed_yes _ _ HI.out).mono ?_; rintro e w' ⟨rfl, rfl⟩)
          | (go_at_call 19; refine (step_any n p (w.heap.size + 1) _ HI.out HPI.out (by rw [← HP.out]; exact HS.out.2.2.1)).mono ?_; rintro e w2 ⟨rfl, h2⟩; have g1 : w2.cell? ⟨w.heap.size, k, none⟩ = some (.int .i64 0) := (by rw [h2, (HS.out.2.1.far (p := ⟨w.heap.size + 1, 0, none⟩) (by simp) _).cell k]; exact filled_next (by rw [Z.pl_len]; simp; have := HL.out; omega) (by rw [HL.out]; exact hlt) .i64); have g2 : w2.frozen? ⟨w.heap.size, k, none⟩ = false := (by rw [h2]; exact (HS.out.2.1.far (p := ⟨w.heap.size + 1, 0, none⟩) (by simp) _).frozen k); have H2 := Lib.hid h2; clear h2))
        go_roundw
        case rel => exact ⟨k + 1, by go_num, by omega, Lib.hid (by have := HS.out.step (w2 := w2) (by rw [HL.out]; exact hlt) (by rw [HN.out]; exact HI.out) (by rw [HN.out]; exact H2.out); rw [HN.out, HP.out] at this; exact this)⟩
        case measure => simp [intOf]; omega
      · have HNo := Lib.hid (Z.steps_bad HM.out hnum)
        have HI := Lib.hid hnum
        clear hnum
        go_wp2_with (go_at_call 15; refine (listed_no _ _ HI.out).mono ?_; rintro e w' ⟨rfl, rfl⟩)
        go_ret2
        exact .no HNo.out HS.out.2.2.2
    · have hkl : k = len := by omega
      have hrow : Hid (RowIn .i64 wr (some ⟨w.heap.size, 0, none⟩) len (Z.pl 0 L)) := Lib.hid (by
        have h1 := HS.out.2.1
        have h2 := HL.out
        rw [List.take_of_length_le (by omega), filled_all (by rw [Z.pl_len]; omega)] at h1
        exact h1.row (fun n hn => wf_num (Z.pl_isn 0 L (by unfold Z.isl; omega) (by have := HS.out.1; rwa [List.take_of_length_le (by omega)] at this) n hn)) (by rw [Z.pl_len]; omega) (by unfold maxLen; omega))
      have HA := Lib.hid (Z.steps_all (L := L) (by rw [HL.out]; exact h4) (by have := HS.out.1; rwa [List.take_of_length_le (by rw [HL.out]; omega)] at this))
      have hd : decide (k < len) = false := by simp; omega
      clear hkl
      go_wp2_with (go_at_call 16; refine (all_any _ len len (Z.pl 0 L) _ (by rw [Z.pl_len]; exact HL.out) hrow.out).mono ?_; rintro e w2 ⟨v, ok, rfl, hok, ho, hb⟩; have HO := Lib.hid hok; have HW := Lib.hid ho; clear hok ho)
      go_ret2
      have hok := HO.out
      have ho := HW.out
      rw [HA.out] at hok ho
      have hs := HS.out.2.2.2
      exact ⟨v, ok, rfl, hok, ownsRow_base ho hs.size, hs.trans (hb.mono hs.size)⟩

/-- **Steps**, at whatever slice. -/
theorem steps_any (a : Option Addr) (len cap : Nat) (L : List Int) (w : World) (hl : L.length = len) (h : RowIn .i64 w a cap L) :
    Calls Try.prog 11 #[.slice a len cap] w (StepsIs L w) := by
  by_cases h4 : 400 < len
  · exact steps_long_any a len cap L w hl h4
  · exact steps_in a len cap L w hl (by omega) h
/-- What Steps tells, as a slice. -/
theorem stepsRow_any (a : Option Addr) (len cap : Nat) (L : List Int) (w : World) (hl : L.length = len) (h : RowIn .i64 w a cap L) : Calls Try.prog 11 #[.slice a len cap] w fun e w' =>
    ∃ a' cap' n', e = .returned (.tuple #[.slice a' n' cap', .bool (Z.steps L).isSome]) ∧ Hid (((Z.steps L).getD []).length = n') ∧ Hid (RowIn .u8 w' a' cap' ((Z.steps L).getD [])) ∧ Below w.heap.size w w' :=
  (steps_any a len cap L w hl h).mono fun e w' ⟨v, ok, he, hok, ho, hb⟩ => by
    obtain ⟨a', cap', rfl, _, hr⟩ := ownsRow_rowIn ho (Z.steps_wf L)
    exact ⟨a', cap', _, by rw [he, hok], rfl, hr, hb⟩

theorem summer_any (w : World) : Calls Try.prog 18 #[] w fun e w' => e = .returned (.func (.func 23) #[] #[.pointer (some ⟨w.heap.size, 0, none⟩)]) ∧ w' = w.alloc (.cells #[.int .i64 0] 3) := by
  go_enter Try.func18, Try.ntmps18
  go_wp2
  go_ret
  exact ⟨rfl, rfl⟩

theorem grownBy_drewN (w : World) (r : Option Nat) : ∀ n, w.grownBy (w.drewN n) r
  | 0 => ⟨rfl, rfl, rfl, Nat.le_refl _, fun _ _ _ => rfl⟩
  | n + 1 => by have := grownBy_drewN w r n; exact ⟨this.os, this.tape, this.output, this.size, this.block⟩

/-- What the summer tells of a place, where it stands at p. -/
def SumIs (B : Nat) (k p : Int) (w : World) (e : Ending) (w' : World) : Prop :=
  ∃ q ok, e = .returned (.tuple #[.int .i64 q, .bool ok]) ∧ ok = decide (Z.zig (Z.zag k) = k ∧ Z.isl (p + Z.zag k)) ∧ w.grownBy w' (some B) ∧ (ok = true → q = p + Z.zag k ∧ Blok w' B 3 #[.int .i64 q])

theorem sum_any (k p : Int) (B : Nat) (w : World) (hp : Z.isl p) (hb : Blok w B 3 #[.int .i64 p]) :
    Calls Try.prog 23 #[.int .i64 k, .pointer (some ⟨B, 0, none⟩)] w (SumIs B k p w) := by
  obtain ⟨p0, p1⟩ := hp
  obtain ⟨s, hs⟩ : ∃ s, Z.zag k = s := ⟨_, rfl⟩
  have hsb := Z.zag_bd k
  rw [hs] at hsb
  obtain ⟨s0, s1⟩ := hsb
  have c0 : w.cell? ⟨B, 0, none⟩ = some (.int .i64 p) := hb.cell 0
  have f0 : w.frozen? ⟨B, 0, none⟩ = false := hb.frozen 0
  have HB := Lib.hid hb
  have HS := Lib.hid hs
  clear hb hs
  by_cases hz : Z.zig s = k
  · have d1 : (Z.zig s != k) = false := by simpa using hz
    have HZ := Lib.hid hz
    clear hz
    go_enter Try.func23, Try.ntmps23
    go_wp2_with (first
      | (go_at_call 10; refine (zag_any _ _).mono ?_; rw [HS.out]; rintro e w' ⟨rfl, rfl⟩)
      | (go_at_call 9; refine (zig_any _ _).mono ?_; rintro e w' ⟨rfl, rfl⟩))
    go_quiet ((go_at_call 15; exact Calls.quiet_of_same ((listed_any _ _).mono fun _ _ ⟨h1, h2⟩ => ⟨h1, h2.symm⟩)))
    go_wp2
    go_ret2
    exact ⟨_, _, rfl, by rw [HS.out]; simp [HZ.out], (grownBy_setCell' w B _).trans (grownBy_drewN _ _ _), fun _ => ⟨by rw [HS.out], (HB.out.set 0 _).drewN _⟩⟩
  · have d1 : (Z.zig s != k) = true := by simpa using hz
    have HZ := Lib.hid hz
    clear hz
    go_enter Try.func23, Try.ntmps23
    go_wp2_with (first
      | (go_at_call 10; refine (zag_any _ _).mono ?_; rw [HS.out]; rintro e w' ⟨rfl, rfl⟩)
      | (go_at_call 9; refine (zig_any _ _).mono ?_; rintro e w' ⟨rfl, rfl⟩))
    go_ret2
    exact ⟨0, false, rfl, (decide_eq_false (fun h => HZ.out (by have := h.1; rwa [HS.out] at this))).symm, ⟨rfl, rfl, rfl, Nat.le_refl _, fun _ _ _ => rfl⟩, fun h => by cases h⟩

/-- What stands at the head of a round of Sums. -/
def SmR (ps : List Int) (N : Nat) (w wr : World) (k : Nat) (xs : List Int) (p : Int) : Prop :=
  Z.un 0 ps = (Z.un p (ps.drop k)).map (fun l => xs ++ l) ∧ xs.length = k ∧ Z.isl p ∧ (∀ n ∈ xs, Z.isl n) ∧ Blok wr N 3 ((filled xs ps.length).map (Value.int .i64)).toArray ∧ Blok wr (N + 1) 3 #[.int .i64 p] ∧ Below N w wr

theorem SmR.bad {ps : List Int} {N : Nat} {w wr : World} {k : Nat} {xs : List Int} {p : Int} (h : SmR ps N w wr k xs p) (hk : k < ps.length) (hb : ¬ (Z.zig (Z.zag (ps.getD k 0)) = ps.getD k 0 ∧ Z.isl (p + Z.zag (ps.getD k 0)))) : Z.un 0 ps = none := by
  rw [h.1, List.drop_eq_getElem_cons hk, Z.un, if_neg]
  · rfl
  · intro hh; apply hb; simpa [hk] using hh
theorem SmR.step {ps : List Int} {N : Nat} {w wr w2 : World} {k : Nat} {xs : List Int} {p q : Int} (h : SmR ps N w wr k xs p) (hk : k < ps.length) (hb : Z.zig (Z.zag (ps.getD k 0)) = ps.getD k 0 ∧ Z.isl (p + Z.zag (ps.getD k 0))) (hq : q = p + Z.zag (ps.getD k 0))
    (hg : wr.grownBy w2 (some (N + 1))) (h2 : Blok w2 (N + 1) 3 #[.int .i64 q]) : SmR ps N w (w2.setCell ⟨N, k, none⟩ (.int .i64 q)) (k + 1) (xs ++ [q]) q := by
  obtain ⟨h1, hl, hp, hx, hB, hC, hW⟩ := h
  subst hq
  refine ⟨?_, by simp [hl], hb.2, ?_, ?_, h2.far (by simp) _, (hW.grown hg (Nat.le_of_lt hB.lt) (fun j e => by cases e; omega)).setCell (by simp) _⟩
  · rw [h1, List.drop_eq_getElem_cons hk, Z.un]
    have e : ps[k] = ps.getD k 0 := by simp [hk]
    rw [e, if_pos hb, Option.map_map]
    congr 1
    funext l
    simp
  · intro n hn
    rcases List.mem_append.1 hn with hn | hn
    · exact hx n hn
    · simp only [List.mem_singleton] at hn; rw [hn]; exact hb.2
  · have h3 := (hB.grown hg (by simp)).set k (.int .i64 (p + Z.zag (ps.getD k 0)))
    have h4 := filled_set (xs := xs) (n := ps.length) (by omega) .i64 (p + Z.zag (ps.getD k 0))
    rw [hl] at h4
    rwa [h4] at h3
theorem SmR.done {ps : List Int} {N : Nat} {w wr : World} {k : Nat} {xs : List Int} {p : Int} (h : SmR ps N w wr k xs p) (hk : ps.length ≤ k) : Z.un 0 ps = some xs := by
  rw [h.1, List.drop_eq_nil_of_le hk, Z.un]; simp

/-- What Sums returns. -/
def SumsIs (b : List Int) (w : World) (e : Ending) (w' : World) : Prop :=
  ∃ v ok, e = .returned (.tuple #[v, .bool ok]) ∧ ok = (Z.sums b).isSome ∧ w'.ownsRow w.heap.size 3 1 v ((Z.sums b).getD []).length (((Z.sums b).getD []).map (Value.int .i64)) ∧ Below w.heap.size w w'
theorem SumsIs.no {b : List Int} {w w' : World} (h : Z.sums b = none) (hb : Below w.heap.size w w') : SumsIs b w (.returned (.tuple #[.slice none 0 0, .bool false])) w' := by
  refine ⟨_, _, rfl, ?_, ?_, hb⟩ <;> rw [h]
  · rfl
  · exact World.ownsRow_nil _ _ _ _

theorem readNo_any (a : Option Addr) (len cap : Nat) (L : List Int) (w : World) (hl : L.length = len) (h : RowIn .u8 w a cap L) (hn : M.read L = none) : Calls Try.prog 17 #[.slice a len cap] w fun e w' =>
    ∃ a' cap' n', e = .returned (.tuple #[.slice a' n' cap', .bool false]) ∧ Below w.heap.size w w' :=
  (readRow_any a len cap L w hl h).mono fun e w' ⟨a', cap', n', he, _, _, hb⟩ => ⟨a', cap', n', by rw [he, hn]; rfl, hb⟩
theorem readYes_any (a : Option Addr) (len cap : Nat) (L ps : List Int) (w : World) (hl : L.length = len) (h : RowIn .u8 w a cap L) (hn : M.read L = some ps) : Calls Try.prog 17 #[.slice a len cap] w fun e w' =>
    ∃ a' cap' n', e = .returned (.tuple #[.slice a' n' cap', .bool true]) ∧ Hid (ps.length = n') ∧ Hid (RowIn .i64 w' a' cap' ps) ∧ Below w.heap.size w w' :=
  (readRow_any a len cap L w hl h).mono fun e w' ⟨a', cap', n', he, h1, h2, hb⟩ => ⟨a', cap', n', by rw [he, hn]; rfl, by rw [hn] at h1; exact h1, by rw [hn] at h2; exact h2, hb⟩

theorem sums_no (a : Option Addr) (len cap : Nat) (L : List Int) (w : World) (hl : L.length = len) (h : RowIn .u8 w a cap L) (hn : M.read L = none) :
    Calls Try.prog 12 #[.slice a len cap] w (SumsIs L w) := by
  have HL := Lib.hid hl
  have HR := Lib.hid h
  have HN := Lib.hid hn
  clear hl h hn
  go_enter Try.func12, Try.ntmps12
  go_wp2_with (go_at_call 17; refine (readNo_any a len cap L _ HL.out HR.out HN.out).mono ?_; rintro e w1 ⟨a', cap', n', rfl, hb⟩)
  go_ret2
  exact .no (by unfold Z.sums; rw [HN.out]; rfl) hb

set_option maxRecDepth 100000 in
set_option maxHeartbeats 1000000 in
theorem sums_in (a : Option Addr) (len cap : Nat) (L ps : List Int) (w : World) (hl : L.length = len) (h : RowIn .u8 w a cap L) (hps : M.read L = some ps) :
    Calls Try.prog 12 #[.slice a len cap] w (SumsIs L w) := by
  obtain ⟨i0, hi, hz0, hz1, hz2⟩ := info_parts info3
  have h4 := (all_some.1 (read_some.1 hps)).1
  have HL := Lib.hid hl
  have HR := Lib.hid h
  have HPS := Lib.hid hps
  have HU : Hid (Z.sums L = Z.un 0 ps) := Lib.hid (by unfold Z.sums; rw [hps]; rfl)
  clear hl h hps
  go_enter Try.func12, Try.ntmps12
  go_wp2_with fail
  refine (readYes_any a len cap L ps _ HL.out HR.out HPS.out).mono ?_
  rintro e w1 ⟨a1, cap1, n1, rfl, HL1, HR1, hb1⟩
  have hn1 : n1 ≤ 400 := by rw [← HL1.out]; exact h4
  have hs1 := hb1.size
  have HB1 := Lib.hid hb1
  clear hb1 h4
  go_wp2_with (first
    | (at_make; refine wpList_make_row _ rfl _ _ 25 rfl 3 i0 (.int .i64 0) Try.underlying25 hi hz0 hz1 rfl .i64 .i64 n1 rfl rfl (by rw [hz2]; omega) (by omega) ?_)
    | (go_at_call 18; refine (summer_any _).mono ?_; rintro e w' ⟨rfl, rfl⟩))
  go_loopw [22] (fun i wr => ∃ (k : Nat) (xs : List Int) (p : Int), i = .int .i64 k ∧ k ≤ n1 ∧ Hid (SmR ps w1.heap.size w1 wr k xs p)) (fun i _ => n1 - (intOf i).toNat)
  case atStart =>
    refine ⟨0, [], 0, rfl, by omega, Lib.hid ⟨by simp, rfl, by unfold Z.isl; omega, by simp, ?_, ?_, ?_⟩⟩
    · have := (Blok.new w1 3 (madeCells #[.int .i64 0] n1)).alloc (.cells #[.int .i64 0] 3)
      rw [filled_nil, HL1.out, ← made_ints]
      exact this
    · have := Blok.new (w1.alloc (.cells (madeCells #[.int .i64 0] n1) 3)) 3 #[.int .i64 0]
      rw [World.size_alloc] at this
      exact this
    · exact ((Below.refl _ w1).alloc (Nat.le_refl _) _).alloc (by simp) _
  case round =>
    obtain ⟨k, xs, p, rfl, hk, HS⟩ := hrel
    by_cases hlt : k < n1
    · have hkL : k < ps.length := by rw [HL1.out]; exact hlt
      obtain ⟨b, off, rfl, hb, hc⟩ := row_at HR1.out hkL
      obtain ⟨n, hn⟩ : ∃ n, ps.getD k 0 = n := ⟨_, rfl⟩
      have hcell : wr.cell? ⟨b, off + k, none⟩ = some (.int .i64 n) := by rw [← hn]; exact (HS.out.2.2.2.2.2.2.cell (p := ⟨b, off + k, none⟩) hb).trans hc
      have HN := Lib.hid hn
      have HK := Lib.hid hkL
      clear hn hkL hc
      by_cases hg : Z.zig (Z.zag n) = n ∧ Z.isl (p + Z.zag n)
      · have HG := Lib.hid hg
        clear hg
        go_wp2_with (go_at_call 23; refine (sum_any n p (w1.heap.size + 1) _ HS.out.2.2.1 HS.out.2.2.2.2.2.1).mono ?_; rintro e w2 ⟨q, ok, rfl, hok, hgr, hq⟩; obtain rfl : ok = true := (by rw [hok]; exact decide_eq_true HG.out); have HQ := Lib.hid (hq rfl); have HGR := Lib.hid hgr; have g1 : w2.cell? ⟨w1.heap.size, k, none⟩ = some (.int .i64 0) := (by rw [(HS.out.2.2.2.2.1.grown HGR.out (by simp)).cell k]; exact filled_next HS.out.2.1 HK.out .i64); have g2 : w2.frozen? ⟨w1.heap.size, k, none⟩ = false := (HS.out.2.2.2.2.1.grown HGR.out (by simp)).frozen k; clear hok hgr hq)
        go_roundw
        case rel => exact ⟨k + 1, xs ++ [q], q, by go_num, by omega, Lib.hid (HS.out.step HK.out (by rw [HN.out]; exact HG.out) (by rw [HN.out]; exact HQ.out.1) HGR.out HQ.out.2)⟩
        case measure => simp [intOf]; omega
      · have HNo := Lib.hid (HS.out.bad HK.out (by rw [HN.out]; exact hg))
        have HG := Lib.hid hg
        clear hg
        go_wp2_with (go_at_call 23; refine (sum_any n p (w1.heap.size + 1) _ HS.out.2.2.1 HS.out.2.2.2.2.2.1).mono ?_; rintro e w2 ⟨q, ok, rfl, hok, hgr, hq⟩; obtain rfl : ok = false := (by rw [hok]; exact decide_eq_false HG.out); have HGR := Lib.hid hgr; have g1 : w2.cell? ⟨w1.heap.size, k, none⟩ = some (.int .i64 0) := (by rw [(HS.out.2.2.2.2.1.grown HGR.out (by simp)).cell k]; exact filled_next HS.out.2.1 HK.out .i64); have g2 : w2.frozen? ⟨w1.heap.size, k, none⟩ = false := (HS.out.2.2.2.2.1.grown HGR.out (by simp)).frozen k; clear hok hgr hq)
        go_ret2
        exact .no (by rw [HU.out]; exact HNo.out) ((HB1.out.trans (HS.out.2.2.2.2.2.2.mono hs1)).trans (((Below.refl w.heap.size wr).grown HGR.out (by have := HS.out.2.2.2.2.1.lt; omega) (fun j e => by cases e; omega)).setCell (by simp; omega) _))
    · have hkl : k = n1 := by omega
      have HD := Lib.hid (HS.out.done (by rw [HL1.out]; omega))
      have hd : decide (k < n1) = false := by simp; omega
      clear hkl
      go_wp2
      go_ret2
      have hr := HS.out.2.2.2.2.1
      have hl : xs.length = n1 := by have := HS.out.2.1; omega
      rw [filled_all (by rw [HL1.out]; omega)] at hr
      refine ⟨_, _, rfl, by rw [HU.out, HD.out]; rfl, ?_, HB1.out.trans (HS.out.2.2.2.2.2.2.mono hs1)⟩
      rw [HU.out, HD.out, Option.getD_some, hl]
      exact hr.own hs1 (by simpa using hl) (Nat.le_refl _) (by unfold maxLen; omega) (by simpa using hl)

/-- **Sums**, at whatever slice. -/
theorem sums_any (a : Option Addr) (len cap : Nat) (L : List Int) (w : World) (hl : L.length = len) (h : RowIn .u8 w a cap L) :
    Calls Try.prog 12 #[.slice a len cap] w (SumsIs L w) := by
  cases hr : M.read L with
  | none => exact sums_no a len cap L w hl h hr
  | some ps => exact sums_in a len cap L ps w hl h hr
/-- What Sums tells, as a slice. -/
theorem sumsRow_any (a : Option Addr) (len cap : Nat) (L : List Int) (w : World) (hl : L.length = len) (h : RowIn .u8 w a cap L) : Calls Try.prog 12 #[.slice a len cap] w fun e w' =>
    ∃ a' cap' n', e = .returned (.tuple #[.slice a' n' cap', .bool (Z.sums L).isSome]) ∧ Hid (((Z.sums L).getD []).length = n') ∧ Hid (RowIn .i64 w' a' cap' ((Z.sums L).getD [])) ∧ Below w.heap.size w w' :=
  (sums_any a len cap L w hl h).mono fun e w' ⟨v, ok, he, hok, ho, hb⟩ => by
    obtain ⟨a', cap', rfl, _, hr⟩ := ownsRow_rowIn ho (Z.sums_wf L)
    exact ⟨a', cap', _, by rw [he, hok], rfl, hr, hb⟩
end Go.Proofs.Ytcppffccbecjpaa
