/-
  Walk of moorings/mooringslaw05.RecBack: for every input it returns true.
-/
import Derived.Test.YtnpgjndhkmpciaaRLaw1
import Derived.Test.YtnpgjndhkmpciaaRLists
import Derived.Test.YtnpgjndhkmpciaaRRefScan
import Derived.Test.YtnpgjndhkmpciaaReg
import Derived.Test.YtnpgjndhkmpciaaRLaw3
import Derived.Test.YtnpgjndhkmpciaaRTwo
namespace Go.Proofs.Ytnpgjndhkmpciaa
open Go.RowKit

set_option maxRecDepth 100000 in
set_option maxHeartbeats 1000000 in
theorem back_big (k : Int) (a : Option Addr) (n cap : Nat) (aa : Option Addr) (la ca : Nat) (ab : Option Addr) (lb cb : Nat) (p : Int) (B : List Int) (w : World) (hl : B.length = n) (hr : RowIn .u8 w a cap B) (hz : a = none → n = 0 ∧ cap = 0) (h : ¬ n ≤ 1100 ∨ (n ≤ 1100 ∧ 1100 < la) ∨ (n ≤ 1100 ∧ la ≤ 1100 ∧ 3000 < lb)) :
    Calls Try.prog 4 #[.agg #[.int .i64 k, .slice a n cap], .slice aa la ca, .slice ab lb cb, .int .i64 p] w fun e w' => e = .returned (.bool true) ∧ Below w.heap.size w w' := by
  have HBX := Lib.hid (recBox_below w k a n cap)
  have HL := Lib.hid hl
  have HR := Lib.hid (hr.below (recBox_below w k a n cap))
  have HZ := Lib.hid hz
  rcases h with h | ⟨h, h1⟩ | ⟨h, h1, h2⟩
  · have HF := Lib.hid (decide_eq_false h)
    clear hl hr hz h
    go_enter Try.func4, Try.ntmps4
    go_wp2_with fail
    refine (awake_any (recBox w k a n cap)).mono ?_
    rintro e w1 ⟨rfl, hb1⟩
    have B1 : Hid (Below (recBox w k a n cap).heap.size (recBox w k a n cap) w1) := Lib.hid hb1
    have W1 : Hid (Below w.heap.size w w1) := Lib.hid (HBX.out.trans (hb1.mono HBX.out.size))
    clear hb1
    have k0 := recBox_kind w k a n cap B1.out
    have k1 := recBox_body w k a n cap B1.out
    go_wp2_with fail
    refine (few1_any k a n cap B false _ ⟨HL.out, HR.out.below B1.out, HZ.out⟩ HF.out).mono ?_
    rintro e w2 ⟨rfl, hb2⟩
    have C2 := Lib.hid hb2
    have B2 := Lib.hid (B1.out.trans (hb2.mono B1.out.size))
    have W2 := Lib.hid (W1.out.trans (hb2.mono W1.out.size))
    clear hb2
    clear k0 k1
    have k0 := recBox_kind w k a n cap B2.out
    have k1 := recBox_body w k a n cap B2.out
    go_wp2
    go_ret
    exact ⟨rfl, W2.out⟩
  · have HF := Lib.hid (decide_eq_true h)
    have d1 : decide ((1100 : Int) < (la : Int)) = true := by simp; omega
    clear hl hr hz h
    go_enter Try.func4, Try.ntmps4
    go_wp2_with fail
    refine (awake_any (recBox w k a n cap)).mono ?_
    rintro e w1 ⟨rfl, hb1⟩
    have B1 : Hid (Below (recBox w k a n cap).heap.size (recBox w k a n cap) w1) := Lib.hid hb1
    have W1 : Hid (Below w.heap.size w w1) := Lib.hid (HBX.out.trans (hb1.mono HBX.out.size))
    clear hb1
    have k0 := recBox_kind w k a n cap B1.out
    have k1 := recBox_body w k a n cap B1.out
    go_wp2_with fail
    refine (few1_any k a n cap B true _ ⟨HL.out, HR.out.below B1.out, HZ.out⟩ HF.out).mono ?_
    rintro e w2 ⟨rfl, hb2⟩
    have C2 := Lib.hid hb2
    have B2 := Lib.hid (B1.out.trans (hb2.mono B1.out.size))
    have W2 := Lib.hid (W1.out.trans (hb2.mono W1.out.size))
    clear hb2
    clear k0 k1
    have k0 := recBox_kind w k a n cap B2.out
    have k1 := recBox_body w k a n cap B2.out
    go_wp2
    go_ret
    exact ⟨rfl, W2.out⟩
  · have HF := Lib.hid (decide_eq_true h)
    have d1 : decide ((1100 : Int) < (la : Int)) = false := by simp; omega
    have d2 : decide ((3000 : Int) < (lb : Int)) = true := by simp; omega
    clear hl hr hz h
    go_enter Try.func4, Try.ntmps4
    go_wp2_with fail
    refine (awake_any (recBox w k a n cap)).mono ?_
    rintro e w1 ⟨rfl, hb1⟩
    have B1 : Hid (Below (recBox w k a n cap).heap.size (recBox w k a n cap) w1) := Lib.hid hb1
    have W1 : Hid (Below w.heap.size w w1) := Lib.hid (HBX.out.trans (hb1.mono HBX.out.size))
    clear hb1
    have k0 := recBox_kind w k a n cap B1.out
    have k1 := recBox_body w k a n cap B1.out
    go_wp2_with fail
    refine (few1_any k a n cap B true _ ⟨HL.out, HR.out.below B1.out, HZ.out⟩ HF.out).mono ?_
    rintro e w2 ⟨rfl, hb2⟩
    have C2 := Lib.hid hb2
    have B2 := Lib.hid (B1.out.trans (hb2.mono B1.out.size))
    have W2 := Lib.hid (W1.out.trans (hb2.mono W1.out.size))
    clear hb2
    clear k0 k1
    have k0 := recBox_kind w k a n cap B2.out
    have k1 := recBox_body w k a n cap B2.out
    go_wp2
    go_ret
    exact ⟨rfl, W2.out⟩

/-- What Get tells, wherever. -/
theorem R.get_cases {L : List Int} (hw : C.wf L) (p : Int) : (∃ e, e ≠ 0 ∧ R.get L p = (e, (0, []), 0)) ∨
    (∃ (q s : Nat) (r : R.T), p = (q : Int) ∧ R.get L p = (0, r, ((q + s : Nat) : Int)) ∧ R.ok r ∧ (L.take (q + s)).drop q = R.bytes r ∧ 0 < s ∧ q + s ≤ L.length) := by
  by_cases hp : p < 0 ∨ (L.length : Int) < p
  · exact .inl ⟨2, by decide, R.get_out hp⟩
  · obtain ⟨q, rfl⟩ : ∃ q : Nat, p = q := ⟨p.toNat, by omega⟩
    have hq : q ≤ L.length := by omega
    rcases R.head_cases (L.drop q) with ⟨e, he, hh⟩ | ⟨r, s, hh⟩
    · exact .inl ⟨e, he, R.get_err hq he hh⟩
    · obtain ⟨h1, h2, h3, h4, _⟩ := R.head_sound (fun c hc => hw c (List.mem_of_mem_drop hc)) hh
      have hb := (R.bytes_big h1).1
      simp at h4
      refine .inr ⟨q, s, r, rfl, by rw [R.get_ok hq hh]; simp, h1, ?_, by omega, by omega⟩
      rw [← h2, List.drop_take]
      congr 1
      omega
theorem R.get_put {r : R.T} (h : R.ok r) (A L : List Int) : R.get (A ++ R.bytes r ++ L) (A.length : Int) = (0, r, ((A.length + (R.bytes r).length : Nat) : Int)) := by
  rw [R.get_ok (L := A ++ R.bytes r ++ L) (p := A.length) (r := r) (s := (R.bytes r).length) (by simp) (by rw [List.append_assoc, List.drop_left' rfl]; exact R.head_bytes h L)]
  simp

set_option maxRecDepth 100000 in
set_option maxHeartbeats 1000000 in
theorem back_put_ok (k : Int) (a : Option Addr) (n cap : Nat) (aa : Option Addr) (la ca : Nat) (ab : Option Addr) (lb cb : Nat) (p : Int) (B A L : List Int) (w : World) (hl : B.length = n) (hr : RowIn .u8 w a cap B) (hz : a = none → n = 0 ∧ cap = 0) (hla : A.length = la) (hra : RowIn .u8 w aa ca A) (hza : aa = none → la = 0 ∧ ca = 0) (hlb : L.length = lb) (hrb : RowIn .u8 w ab cb L) (hzb : ab = none → lb = 0 ∧ cb = 0) (hf : n ≤ 1100) (hla1 : la ≤ 1100) (hlb3 : lb ≤ 3000) (hok : R.ok (k, B)) (q E : Nat) (r : R.T) (hp : p = (q : Int)) (hg : R.get L p = (0, r, (E : Int))) (hro : R.ok r) (hrb' : (L.take E).drop q = R.bytes r) (hqE0 : q < E) (hEl0 : E ≤ lb) :
    Calls Try.prog 4 #[.agg #[.int .i64 k, .slice a n cap], .slice aa la ca, .slice ab lb cb, .int .i64 p] w fun e w' => e = .returned (.bool true) ∧ Below w.heap.size w w' := by
  obtain ⟨i0, hi, hz0, hz1, hz2⟩ := info_parts info5
  have HBX := Lib.hid (recBox_below w k a n cap)
  have HL := Lib.hid hl
  have HR := Lib.hid (hr.below (recBox_below w k a n cap))
  have HZ := Lib.hid hz
  have HF := Lib.hid (decide_eq_true hf)
  have d1 : decide ((1100 : Int) < (la : Int)) = false := by simp; omega
  have d2 : decide ((3000 : Int) < (lb : Int)) = false := by simp; omega
  have h9b : lb ≤ 90000 := by omega
  have LA := Lib.hid hla
  have RA := Lib.hid (hra.below (recBox_below w k a n cap))
  have ZA := Lib.hid hza
  have LB := Lib.hid hlb
  have RB := Lib.hid (hrb.below (recBox_below w k a n cap))
  have ZB := Lib.hid hzb
  have HOK := Lib.hid hok
  have HP := Lib.hid (R.put_yes hok)
  have HPL := Lib.hid (R.bytes_big hok).2
  subst hp
  have JT : Hid ((R.get L (q : Int)).2.2 = (E : Int)) := Lib.hid (by rw [hg])
  have JE : Hid ((R.get L (q : Int)).1 = 0) := Lib.hid (by rw [hg])
  have JX : Hid ((R.get L (q : Int)).2.1 = r) := Lib.hid (by rw [hg])
  have JR := Lib.hid hro
  have JB := Lib.hid hrb'
  have hqE : q ≤ E := by omega
  have hEl : E ≤ lb := hEl0
  have hEc : E ≤ cb := by have := hrb.1.1; omega
  have hcb : cb ≤ maxLen := hrb.1.2
  have q3 : decide ((0 : Int) ≤ (q : Int)) = true := by simp
  have q4 : decide ((q : Int) < (E : Int)) = true := by simp; omega
  have q5 : decide ((E : Int) ≤ (lb : Int)) = true := by simp; omega
  obtain ⟨sv, hsv⟩ : ∃ s, strOf (R.bytes r) = s := ⟨_, rfl⟩
  have KSV := Lib.hid hsv
  clear hl hr hz hf hla hra hza hlb hrb hzb hok hg hro hrb' hsv
  go_enter Try.func4, Try.ntmps4
  go_wp2_with fail
  refine (awake_any (recBox w k a n cap)).mono ?_
  rintro e w1 ⟨rfl, hb1⟩
  have B1 : Hid (Below (recBox w k a n cap).heap.size (recBox w k a n cap) w1) := Lib.hid hb1
  have W1 : Hid (Below w.heap.size w w1) := Lib.hid (HBX.out.trans (hb1.mono HBX.out.size))
  clear hb1
  have k0 := recBox_kind w k a n cap B1.out
  have k1 := recBox_body w k a n cap B1.out
  go_wp2_with fail
  refine (few1_any k a n cap B true _ ⟨HL.out, HR.out.below B1.out, HZ.out⟩ HF.out).mono ?_
  rintro e w2 ⟨rfl, hb2⟩
  have C2 := Lib.hid hb2
  have B2 := Lib.hid (B1.out.trans (hb2.mono B1.out.size))
  have W2 := Lib.hid (W1.out.trans (hb2.mono W1.out.size))
  clear hb2
  clear k0 k1
  have k0 := recBox_kind w k a n cap B2.out
  have k1 := recBox_body w k a n cap B2.out
  go_wp2_with fail
  refine (recPut_any k a n cap B _ HL.out (HR.out.below B2.out) HZ.out).mono ?_
  rintro e w3 ⟨a3, c3, n3, rfl, l3, r3, z3, hb3⟩
  have C3 := Lib.hid hb3
  have B3 := Lib.hid (B2.out.trans (hb3.mono B2.out.size))
  have W3 := Lib.hid (W2.out.trans (hb3.mono W2.out.size))
  clear hb3
  rw [HP.out] at l3 r3 ⊢
  have L3 := Lib.hid (show (R.bytes (k, B)).length = n3 from l3.out)
  have R3 := Lib.hid (show RowIn .u8 w3 a3 c3 (R.bytes (k, B)) from r3.out)
  have hn3 : n3 ≤ 1007 := by rw [← L3.out]; exact HPL.out
  have hsm : (some (R.bytes (k, B))).isSome = true := rfl
  clear l3 r3
  clear k0 k1
  have k0 := recBox_kind w k a n cap B3.out
  have k1 := recBox_body w k a n cap B3.out
  have RA3 := Lib.hid (RA.out.below B3.out)
  have RB3 := Lib.hid (RB.out.below B3.out)
  have HWD : Hid (∀ c ∈ A ++ (R.bytes (k, B)) ++ L, (Lit.int .u8 c).wf = true) := Lib.hid (fun c hc => by
    rcases List.mem_append.1 hc with hc | hc
    · rcases List.mem_append.1 hc with hc | hc
      · exact RA.out.2.1 c hc
      · exact R3.out.2.1 c hc
    · exact RB.out.2.1 c hc)
  go_wp2_with (first
    | (at_builtin; refine wpList_append_row _ rfl _ _ 22 rfl w3.heap.size 5 i0 (.int .u8 0) 1 Try.underlying22 hi hz0 hz1 hz2 rfl (.slice none 0 0) 0 [] rfl (World.ownsRow_nil _ _ _ _) .u8 aa la ca A rfl RA3.out LA.out ZA.out (by unfold maxLen; omega) (by omega) (Nat.le_refl _) ?_; intro v4 w4 hown4 hgrow4; have HO4 : Hid (w4.ownsRow w3.heap.size 5 1 v4 la (A.map (Value.int .u8))) := Lib.hid (by simpa using hown4); have HB4 : Hid (Below w3.heap.size w3 w4) := Lib.hid ((Below.refl _ w3).grown hgrow4 (Nat.le_refl _) (fun k ek => by cases ek)); clear hown4 hgrow4)
    | (at_builtin; refine wpList_append_row _ rfl _ _ 22 rfl w3.heap.size 5 i0 (.int .u8 0) 1 Try.underlying22 hi hz0 hz1 hz2 rfl v4 la (A.map (Value.int .u8)) rfl HO4.out .u8 a3 n3 c3 (R.bytes (k, B)) rfl (R3.out.below HB4.out) L3.out z3.out (by unfold maxLen; omega) (by omega) HB4.out.size ?_; intro v5 w5 hown5 hgrow5; have HO5 : Hid (w5.ownsRow w3.heap.size 5 1 v5 (la + n3) ((A ++ (R.bytes (k, B))).map (Value.int .u8))) := Lib.hid (by simpa using hown5); have HB5 : Hid (Below w3.heap.size w3 w5) := Lib.hid (below_appended0 HO4.out HB4.out.size HB4.out hgrow5); clear hown5 hgrow5)
    | (at_builtin; refine wpList_append_row _ rfl _ _ 22 rfl w3.heap.size 5 i0 (.int .u8 0) 1 Try.underlying22 hi hz0 hz1 hz2 rfl v5 (la + n3) ((A ++ (R.bytes (k, B))).map (Value.int .u8)) rfl HO5.out .u8 ab lb cb L rfl (RB3.out.below HB5.out) LB.out ZB.out (by unfold maxLen; omega) (by omega) HB5.out.size ?_; intro v6 w6 hown6 hgrow6; have hb6 : Below w3.heap.size w3 w6 := below_appended0 HO5.out HB5.out.size HB5.out hgrow6; obtain ⟨a6, c6, hv6, r6, z6⟩ := own_row3 (k := .u8) (L := A ++ (R.bytes (k, B)) ++ L) (by simpa using hown6) HWD.out; have R6 := Lib.hid r6; have Z6 := Lib.hid z6; subst hv6; clear hown6 hgrow6 r6 z6))
  have LD : Hid ((A ++ (R.bytes (k, B)) ++ L).length = la + n3 + lb) := Lib.hid (by rw [List.length_append, List.length_append, LA.out, L3.out, LB.out])
  have h9 : la + n3 + lb ≤ 90000 := by omega
  have C6 := Lib.hid hb6
  have B6 := Lib.hid (B3.out.trans (hb6.mono B3.out.size))
  have W6 := Lib.hid (W3.out.trans (hb6.mono W3.out.size))
  clear hb6
  clear k0 k1
  have k0 := recBox_kind w k a n cap B6.out
  have k1 := recBox_body w k a n cap B6.out
  have KT : Hid ((R.get (A ++ (R.bytes (k, B)) ++ L) (la : Int)).2.2 = ((la + n3 : Nat) : Int)) := Lib.hid (by have := R.get_put HOK.out A L; rw [LA.out, L3.out] at this; rw [this])
  have KE : Hid ((R.get (A ++ (R.bytes (k, B)) ++ L) (la : Int)).1 = 0) := Lib.hid (by have := R.get_put HOK.out A L; rw [LA.out] at this; rw [this])
  have KX : Hid ((R.get (A ++ (R.bytes (k, B)) ++ L) (la : Int)).2.1 = (k, B)) := Lib.hid (by have := R.get_put HOK.out A L; rw [LA.out] at this; rw [this])
  have hgoal : True := trivial
  refine (recGet_any a6 (la + n3 + lb) c6 la _ _ h9 LD.out R6.out Z6.out).mono ?_
  rintro e w7 hget
  obtain ⟨⟨k7', a7', n7', c7', b7'⟩, rfl, HX7, ho7, _, hb7'⟩ := hget.place
  rw [KT.out]
  rw [KE.out]
  have hb7 := hb7'.trans ((recBox_below w7 k7' a7' n7' c7').mono hb7'.size)
  have HO7 := Lib.hid (ho7.out.below (recBox_below w7 k7' a7' n7' c7'))
  clear hget ho7 hb7'
  have C7 := Lib.hid hb7
  have B7 := Lib.hid (B6.out.trans (hb7.mono B6.out.size))
  have W7 := Lib.hid (W6.out.trans (hb7.mono W6.out.size))
  clear hb7
  have X7 := Lib.hid (Below.refl (recBox w7 k7' a7' n7' c7').heap.size (recBox w7 k7' a7' n7' c7'))
  clear k0 k1
  have k0 := recBox_kind w k a n cap B7.out
  have k1 := recBox_body w k a n cap B7.out
  have f7' := recBox_kind w7 k7' a7' n7' c7' X7.out
  have g7' := recBox_body w7 k7' a7' n7' c7' X7.out
  unfold recBox at k0 k1 f7' g7'
  have EX : Hid (decide (((k7', b7') : R.T) = (k, B)) = true) := Lib.hid (decide_eq_true (HX7.out.trans KX.out))
  have hend : ((((la + n3 : Nat) : Int)) != (la : Int) + (n3 : Int)) = false := by simp
  go_wp2_with fail
  refine (same_any k7' k a7' a n7' n c7' cap b7' B _ HO7.out.1 HL.out HO7.out.2.1 (HR.out.below B7.out)).mono ?_
  rintro e w8 ⟨rfl, hb8⟩
  rw [EX.out]
  have C8 := Lib.hid hb8
  have B8 := Lib.hid (B7.out.trans (hb8.mono B7.out.size))
  have X8 := Lib.hid (X7.out.trans (hb8.mono X7.out.size))
  have W8 := Lib.hid (W7.out.trans (hb8.mono W7.out.size))
  clear hb8
  clear k0 k1 f7' g7'
  have k0 := recBox_kind w k a n cap B8.out
  have k1 := recBox_body w k a n cap B8.out
  have f7' := recBox_kind w7 k7' a7' n7' c7' X8.out
  have g7' := recBox_body w7 k7' a7' n7' c7' X8.out
  go_wp2_with fail
  refine (recGet_any ab lb cb (q : Int) L _ h9b LB.out (RB.out.below B8.out) ZB.out).mono ?_
  rintro e w9 hget
  obtain ⟨⟨k9', a9', n9', c9', b9'⟩, rfl, HX9, ho9, _, hb9'⟩ := hget.place
  rw [JT.out]
  rw [JE.out]
  have hb9 := hb9'.trans ((recBox_below w9 k9' a9' n9' c9').mono hb9'.size)
  have HO9 := Lib.hid (ho9.out.below (recBox_below w9 k9' a9' n9' c9'))
  clear hget ho9 hb9'
  have C9 := Lib.hid hb9
  have B9 := Lib.hid (B8.out.trans (hb9.mono B8.out.size))
  have X9 := Lib.hid (X8.out.trans (hb9.mono X8.out.size))
  have W9 := Lib.hid (W8.out.trans (hb9.mono W8.out.size))
  clear hb9
  have Y9 := Lib.hid (Below.refl (recBox w9 k9' a9' n9' c9').heap.size (recBox w9 k9' a9' n9' c9'))
  clear k0 k1 f7' g7'
  have k0 := recBox_kind w k a n cap B9.out
  have k1 := recBox_body w k a n cap B9.out
  have f7' := recBox_kind w7 k7' a7' n7' c7' X9.out
  have g7' := recBox_body w7 k7' a7' n7' c7' X9.out
  have f9' := recBox_kind w9 k9' a9' n9' c9' Y9.out
  have g9' := recBox_body w9 k9' a9' n9' c9' Y9.out
  have hk0 : ((k9', b9') : R.T) = r := by have := HX9.out; rw [JX.out] at this; exact this
  have HPR : Hid (R.put (k9', b9') = some (R.bytes r)) := Lib.hid (by rw [hk0]; exact R.put_yes JR.out)
  clear hk0
  go_wp2_with fail
  refine (recPut_any k9' a9' n9' c9' b9' _ HO9.out.1 HO9.out.2.1 HO9.out.2.2).mono ?_
  rintro e w10 ⟨aP, cP, nP, rfl, lP, rP, zP, hb10⟩
  have C10 := Lib.hid hb10
  have B10 := Lib.hid (B9.out.trans (hb10.mono B9.out.size))
  have X10 := Lib.hid (X9.out.trans (hb10.mono X9.out.size))
  have Y10 := Lib.hid (Y9.out.trans (hb10.mono Y9.out.size))
  have W10 := Lib.hid (W9.out.trans (hb10.mono W9.out.size))
  clear hb10
  rw [HPR.out] at lP rP ⊢
  have LP := Lib.hid (show (R.bytes r).length = nP from lP.out)
  have RP' := Lib.hid (show RowIn .u8 w10 aP cP (R.bytes r) from rP.out)
  have hsq : (some (R.bytes r)).isSome = true := rfl
  clear k0 k1 f7' g7' f9' g9'
  have k0 := recBox_kind w k a n cap B10.out
  have k1 := recBox_body w k a n cap B10.out
  have f7' := recBox_kind w7 k7' a7' n7' c7' X10.out
  have g7' := recBox_body w7 k7' a7' n7' c7' X10.out
  have f9' := recBox_kind w9 k9' a9' n9' c9' Y10.out
  have g9' := recBox_body w9 k9' a9' n9' c9' Y10.out
  have RBJ := Lib.hid (RB.out.below B10.out)
  have RS := Lib.hid (show RowIn .u8 w10 (sl ab q cb) (cb - q) (R.bytes r) from by have := row_sliced RBJ.out (l := q) (h := E) (m := cb) hqE (by rw [LB.out]; exact hEl) hEc hcb; rw [JB.out] at this; exact this)
  have LS : Hid ((R.bytes r).length = E - q) := Lib.hid (by have h1 := congrArg List.length JB.out; rw [← h1]; have := LB.out; simp; omega)
  clear lP rP zP hsq
  clear k0 k1 f7' g7' f9' g9'
  go_wp2_with fail
  refine wp_region_held (S := fun w' => Below w10.heap.size w10 w') (by kernel_rfl) ?_
  change wpAnyH _ _ _ _ _ _ _ _ (World.drew w10)
  have HS0 : (fun w' => Below w10.heap.size w10 w') (World.drew w10) := below_drew w10
  refine wpAnyH_take (i := 0) (v := (.bool true)) rfl (by kernel_rfl) (by kernel_rfl) (by kernel_rfl) (fun _ _ _ h => h) (.inl ⟨by kernel_rfl, fun w9 hS => by kernel_rfl⟩) HS0 ?_
  refine wpAnyH_take (i := 1) (v := (.bool true)) rfl (by kernel_rfl) (by kernel_rfl) (by kernel_rfl) (fun _ _ _ h => h) (.inl ⟨by kernel_rfl, fun w9 hS => by kernel_rfl⟩) HS0 ?_
  refine wpAnyH_take (i := 2) (v := (.int .i64 (q : Int))) rfl (by kernel_rfl) (by kernel_rfl) (by kernel_rfl) (fun _ _ _ h => h) (.inl ⟨by kernel_rfl, fun w9 hS => by kernel_rfl⟩) HS0 ?_
  refine wpAnyH_take (i := 3) (v := (.bool true)) rfl (by kernel_rfl) (by kernel_rfl) (by kernel_rfl) (fun _ _ _ h => h) (.inl ⟨by kernel_rfl, fun w9 hS => (show _ = Result.ok (.value (.bool (decide ((0 : Int) ≤ (q : Int))))) w9 by kernel_rfl).trans (by rw [q3])⟩) HS0 ?_
  refine wpAnyH_take (i := 4) (v := (.bool true)) rfl (by kernel_rfl) (by kernel_rfl) (by kernel_rfl) (fun _ _ _ h => h) (.inl ⟨by kernel_rfl, fun w9 hS => by kernel_rfl⟩) HS0 ?_
  refine wpAnyH_take (i := 5) (v := (.bool true)) rfl (by kernel_rfl) (by kernel_rfl) (by kernel_rfl) (fun _ _ _ h => h) (.inl ⟨by kernel_rfl, fun w9 hS => by kernel_rfl⟩) HS0 ?_
  refine wpAnyH_take (i := 6) (v := (.int .i64 (E : Int))) rfl (by kernel_rfl) (by kernel_rfl) (by kernel_rfl) (fun _ _ _ h => h) (.inl ⟨by kernel_rfl, fun w9 hS => by kernel_rfl⟩) HS0 ?_
  refine wpAnyH_take (i := 7) (v := (.int .i64 (q : Int))) rfl (by kernel_rfl) (by kernel_rfl) (by kernel_rfl) (fun _ _ _ h => h) (.inl ⟨by kernel_rfl, fun w9 hS => by kernel_rfl⟩) HS0 ?_
  refine wpAnyH_take (i := 8) (v := (.bool true)) rfl (by kernel_rfl) (by kernel_rfl) (by kernel_rfl) (fun _ _ _ h => h) (.inl ⟨by kernel_rfl, fun w9 hS => (show _ = Result.ok (.value (.bool (decide ((q : Int) < (E : Int))))) w9 by kernel_rfl).trans (by rw [q4])⟩) HS0 ?_
  refine wpAnyH_take (i := 9) (v := (.bool true)) rfl (by kernel_rfl) (by kernel_rfl) (by kernel_rfl) (fun _ _ _ h => h) (.inl ⟨by kernel_rfl, fun w9 hS => by kernel_rfl⟩) HS0 ?_
  refine wpAnyH_take (i := 10) (v := (.bool true)) rfl (by kernel_rfl) (by kernel_rfl) (by kernel_rfl) (fun _ _ _ h => h) (.inl ⟨by kernel_rfl, fun w9 hS => by kernel_rfl⟩) HS0 ?_
  refine wpAnyH_take (i := 11) (v := (.int .i64 (E : Int))) rfl (by kernel_rfl) (by kernel_rfl) (by kernel_rfl) (fun _ _ _ h => h) (.inl ⟨by kernel_rfl, fun w9 hS => by kernel_rfl⟩) HS0 ?_
  refine wpAnyH_take (i := 12) (v := (.slice ab lb cb)) rfl (by kernel_rfl) (by kernel_rfl) (by kernel_rfl) (fun _ _ _ h => h) (.inl ⟨by kernel_rfl, fun w9 hS => by kernel_rfl⟩) HS0 ?_
  refine wpAnyH_take (i := 13) (v := (.int .i64 (lb : Int))) rfl (by kernel_rfl) (by kernel_rfl) (by kernel_rfl) (fun _ _ _ h => h) (.inl ⟨by kernel_rfl, fun w9 hS => by kernel_rfl⟩) HS0 ?_
  refine wpAnyH_take (i := 14) (v := (.bool true)) rfl (by kernel_rfl) (by kernel_rfl) (by kernel_rfl) (fun _ _ _ h => h) (.inl ⟨by kernel_rfl, fun w9 hS => (show _ = Result.ok (.value (.bool (decide ((E : Int) ≤ (lb : Int))))) w9 by kernel_rfl).trans (by rw [q5])⟩) HS0 ?_
  refine wpAnyH_take (i := 15) (v := (.bool true)) rfl (by kernel_rfl) (by kernel_rfl) (by kernel_rfl) (fun _ _ _ h => h) (.inl ⟨by kernel_rfl, fun w9 hS => by kernel_rfl⟩) HS0 ?_
  refine wpAnyH_take (i := 16) (v := (.bool true)) rfl (by kernel_rfl) (by kernel_rfl) (by kernel_rfl) (fun _ _ _ h => h) (.inl ⟨by kernel_rfl, fun w9 hS => by kernel_rfl⟩) HS0 ?_
  refine wpAnyH_take (i := 17) (v := (.slice aP nP cP)) rfl (by kernel_rfl) (by kernel_rfl) (by kernel_rfl) (fun _ _ _ h => h) (.inl ⟨by kernel_rfl, fun w9 hS => by kernel_rfl⟩) HS0 ?_
  refine wpAnyH_take (i := 18) (v := (.string sv)) rfl (by kernel_rfl) (by kernel_rfl) (by kernel_rfl) (fun _ _ _ h => h) (.inl ⟨by kernel_rfl, fun w9 hS => by have k := conv_row (RP'.out.below hS) LP.out; rw [KSV.out] at k; go_simp⟩) HS0 ?_
  refine wpAnyH_take (i := 19) (v := (.slice ab lb cb)) rfl (by kernel_rfl) (by kernel_rfl) (by kernel_rfl) (fun _ _ _ h => h) (.inl ⟨by kernel_rfl, fun w9 hS => by kernel_rfl⟩) HS0 ?_
  refine wpAnyH_take (i := 20) (v := (.int .i64 (q : Int))) rfl (by kernel_rfl) (by kernel_rfl) (by kernel_rfl) (fun _ _ _ h => h) (.inl ⟨by kernel_rfl, fun w9 hS => by kernel_rfl⟩) HS0 ?_
  refine wpAnyH_take (i := 21) (v := (.int .i64 (E : Int))) rfl (by kernel_rfl) (by kernel_rfl) (by kernel_rfl) (fun _ _ _ h => h) (.inl ⟨by kernel_rfl, fun w9 hS => by kernel_rfl⟩) HS0 ?_
  refine wpAnyH_take (i := 22) (v := (.slice (sl ab q cb) (E - q) (cb - q))) rfl (by kernel_rfl) (by kernel_rfl) (by kernel_rfl) (fun _ _ _ h => h) (.inl ⟨by kernel_rfl, fun w9 hS => exec_slice2 (a := ab) (len := lb) (cap := cb) (l := q) (h := E) rfl (by kernel_rfl) (by kernel_rfl) (by kernel_rfl) hqE hEc w9⟩) HS0 ?_
  refine wpAnyH_take (i := 23) (v := (.string sv)) rfl (by kernel_rfl) (by kernel_rfl) (by kernel_rfl) (fun _ _ _ h => h) (.inl ⟨by kernel_rfl, fun w9 hS => by have k := conv_row (RS.out.below hS) LS.out; rw [KSV.out] at k; go_simp⟩) HS0 ?_
  refine wpAnyH_take (i := 24) (v := (.bool true)) rfl (by kernel_rfl) (by kernel_rfl) (by kernel_rfl) (fun _ _ _ h => h) (.inl ⟨by kernel_rfl, fun w9 hS => (show _ = Result.ok (.value (.bool (sv.toList == sv.toList))) w9 by kernel_rfl).trans (by rw [beq_self_eq_true])⟩) HS0 ?_
  refine wpAnyH_take (i := 25) (v := (.bool true)) rfl (by kernel_rfl) (by kernel_rfl) (by kernel_rfl) (fun _ _ _ h => h) (.inl ⟨by kernel_rfl, fun w9 hS => by kernel_rfl⟩) HS0 ?_
  refine wpAnyH_take (i := 26) (v := (.bool true)) rfl (by kernel_rfl) (by kernel_rfl) (by kernel_rfl) (fun _ _ _ h => h) (.inl ⟨by kernel_rfl, fun w9 hS => by kernel_rfl⟩) HS0 ?_
  refine wpAnyH_done (by kernel_rfl) ?_ _
  go_wp2
  go_ret
  exact ⟨rfl, W10.out.trans (Below.mono HS0 W10.out.size)⟩

set_option maxRecDepth 100000 in
set_option maxHeartbeats 1000000 in
theorem back_put_err (k : Int) (a : Option Addr) (n cap : Nat) (aa : Option Addr) (la ca : Nat) (ab : Option Addr) (lb cb : Nat) (p : Int) (B A L : List Int) (w : World) (hl : B.length = n) (hr : RowIn .u8 w a cap B) (hz : a = none → n = 0 ∧ cap = 0) (hla : A.length = la) (hra : RowIn .u8 w aa ca A) (hza : aa = none → la = 0 ∧ ca = 0) (hlb : L.length = lb) (hrb : RowIn .u8 w ab cb L) (hzb : ab = none → lb = 0 ∧ cb = 0) (hf : n ≤ 1100) (hla1 : la ≤ 1100) (hlb3 : lb ≤ 3000) (hok : R.ok (k, B)) (er : Int) (hne : er ≠ 0) (hg : R.get L p = (er, (0, []), 0)) :
    Calls Try.prog 4 #[.agg #[.int .i64 k, .slice a n cap], .slice aa la ca, .slice ab lb cb, .int .i64 p] w fun e w' => e = .returned (.bool true) ∧ Below w.heap.size w w' := by
  obtain ⟨i0, hi, hz0, hz1, hz2⟩ := info_parts info5
  have HBX := Lib.hid (recBox_below w k a n cap)
  have HL := Lib.hid hl
  have HR := Lib.hid (hr.below (recBox_below w k a n cap))
  have HZ := Lib.hid hz
  have HF := Lib.hid (decide_eq_true hf)
  have d1 : decide ((1100 : Int) < (la : Int)) = false := by simp; omega
  have d2 : decide ((3000 : Int) < (lb : Int)) = false := by simp; omega
  have h9b : lb ≤ 90000 := by omega
  have LA := Lib.hid hla
  have RA := Lib.hid (hra.below (recBox_below w k a n cap))
  have ZA := Lib.hid hza
  have LB := Lib.hid hlb
  have RB := Lib.hid (hrb.below (recBox_below w k a n cap))
  have ZB := Lib.hid hzb
  have HOK := Lib.hid hok
  have HP := Lib.hid (R.put_yes hok)
  have HPL := Lib.hid (R.bytes_big hok).2
  have JT : Hid ((R.get L p).2.2 = 0) := Lib.hid (by rw [hg])
  have JE : Hid ((R.get L p).1 = er) := Lib.hid (by rw [hg])
  have JX : Hid ((R.get L p).2.1 = (0, [])) := Lib.hid (by rw [hg])
  have q1 : (er != 0) = true := by simpa using hne
  have q2 : (er == 0) = false := by simpa using hne
  clear hl hr hz hf hla hra hza hlb hrb hzb hok hg hne
  go_enter Try.func4, Try.ntmps4
  go_wp2_with fail
  refine (awake_any (recBox w k a n cap)).mono ?_
  rintro e w1 ⟨rfl, hb1⟩
  have B1 : Hid (Below (recBox w k a n cap).heap.size (recBox w k a n cap) w1) := Lib.hid hb1
  have W1 : Hid (Below w.heap.size w w1) := Lib.hid (HBX.out.trans (hb1.mono HBX.out.size))
  clear hb1
  have k0 := recBox_kind w k a n cap B1.out
  have k1 := recBox_body w k a n cap B1.out
  go_wp2_with fail
  refine (few1_any k a n cap B true _ ⟨HL.out, HR.out.below B1.out, HZ.out⟩ HF.out).mono ?_
  rintro e w2 ⟨rfl, hb2⟩
  have C2 := Lib.hid hb2
  have B2 := Lib.hid (B1.out.trans (hb2.mono B1.out.size))
  have W2 := Lib.hid (W1.out.trans (hb2.mono W1.out.size))
  clear hb2
  clear k0 k1
  have k0 := recBox_kind w k a n cap B2.out
  have k1 := recBox_body w k a n cap B2.out
  go_wp2_with fail
  refine (recPut_any k a n cap B _ HL.out (HR.out.below B2.out) HZ.out).mono ?_
  rintro e w3 ⟨a3, c3, n3, rfl, l3, r3, z3, hb3⟩
  have C3 := Lib.hid hb3
  have B3 := Lib.hid (B2.out.trans (hb3.mono B2.out.size))
  have W3 := Lib.hid (W2.out.trans (hb3.mono W2.out.size))
  clear hb3
  rw [HP.out] at l3 r3 ⊢
  have L3 := Lib.hid (show (R.bytes (k, B)).length = n3 from l3.out)
  have R3 := Lib.hid (show RowIn .u8 w3 a3 c3 (R.bytes (k, B)) from r3.out)
  have hn3 : n3 ≤ 1007 := by rw [← L3.out]; exact HPL.out
  have hsm : (some (R.bytes (k, B))).isSome = true := rfl
  clear l3 r3
  clear k0 k1
  have k0 := recBox_kind w k a n cap B3.out
  have k1 := recBox_body w k a n cap B3.out
  have RA3 := Lib.hid (RA.out.below B3.out)
  have RB3 := Lib.hid (RB.out.below B3.out)
  have HWD : Hid (∀ c ∈ A ++ (R.bytes (k, B)) ++ L, (Lit.int .u8 c).wf = true) := Lib.hid (fun c hc => by
    rcases List.mem_append.1 hc with hc | hc
    · rcases List.mem_append.1 hc with hc | hc
      · exact RA.out.2.1 c hc
      · exact R3.out.2.1 c hc
    · exact RB.out.2.1 c hc)
  go_wp2_with (first
    | (at_builtin; refine wpList_append_row _ rfl _ _ 22 rfl w3.heap.size 5 i0 (.int .u8 0) 1 Try.underlying22 hi hz0 hz1 hz2 rfl (.slice none 0 0) 0 [] rfl (World.ownsRow_nil _ _ _ _) .u8 aa la ca A rfl RA3.out LA.out ZA.out (by unfold maxLen; omega) (by omega) (Nat.le_refl _) ?_; intro v4 w4 hown4 hgrow4; have HO4 : Hid (w4.ownsRow w3.heap.size 5 1 v4 la (A.map (Value.int .u8))) := Lib.hid (by simpa using hown4); have HB4 : Hid (Below w3.heap.size w3 w4) := Lib.hid ((Below.refl _ w3).grown hgrow4 (Nat.le_refl _) (fun k ek => by cases ek)); clear hown4 hgrow4)
    | (at_builtin; refine wpList_append_row _ rfl _ _ 22 rfl w3.heap.size 5 i0 (.int .u8 0) 1 Try.underlying22 hi hz0 hz1 hz2 rfl v4 la (A.map (Value.int .u8)) rfl HO4.out .u8 a3 n3 c3 (R.bytes (k, B)) rfl (R3.out.below HB4.out) L3.out z3.out (by unfold maxLen; omega) (by omega) HB4.out.size ?_; intro v5 w5 hown5 hgrow5; have HO5 : Hid (w5.ownsRow w3.heap.size 5 1 v5 (la + n3) ((A ++ (R.bytes (k, B))).map (Value.int .u8))) := Lib.hid (by simpa using hown5); have HB5 : Hid (Below w3.heap.size w3 w5) := Lib.hid (below_appended0 HO4.out HB4.out.size HB4.out hgrow5); clear hown5 hgrow5)
    | (at_builtin; refine wpList_append_row _ rfl _ _ 22 rfl w3.heap.size 5 i0 (.int .u8 0) 1 Try.underlying22 hi hz0 hz1 hz2 rfl v5 (la + n3) ((A ++ (R.bytes (k, B))).map (Value.int .u8)) rfl HO5.out .u8 ab lb cb L rfl (RB3.out.below HB5.out) LB.out ZB.out (by unfold maxLen; omega) (by omega) HB5.out.size ?_; intro v6 w6 hown6 hgrow6; have hb6 : Below w3.heap.size w3 w6 := below_appended0 HO5.out HB5.out.size HB5.out hgrow6; obtain ⟨a6, c6, hv6, r6, z6⟩ := own_row3 (k := .u8) (L := A ++ (R.bytes (k, B)) ++ L) (by simpa using hown6) HWD.out; have R6 := Lib.hid r6; have Z6 := Lib.hid z6; subst hv6; clear hown6 hgrow6 r6 z6))
  have LD : Hid ((A ++ (R.bytes (k, B)) ++ L).length = la + n3 + lb) := Lib.hid (by rw [List.length_append, List.length_append, LA.out, L3.out, LB.out])
  have h9 : la + n3 + lb ≤ 90000 := by omega
  have C6 := Lib.hid hb6
  have B6 := Lib.hid (B3.out.trans (hb6.mono B3.out.size))
  have W6 := Lib.hid (W3.out.trans (hb6.mono W3.out.size))
  clear hb6
  clear k0 k1
  have k0 := recBox_kind w k a n cap B6.out
  have k1 := recBox_body w k a n cap B6.out
  have KT : Hid ((R.get (A ++ (R.bytes (k, B)) ++ L) (la : Int)).2.2 = ((la + n3 : Nat) : Int)) := Lib.hid (by have := R.get_put HOK.out A L; rw [LA.out, L3.out] at this; rw [this])
  have KE : Hid ((R.get (A ++ (R.bytes (k, B)) ++ L) (la : Int)).1 = 0) := Lib.hid (by have := R.get_put HOK.out A L; rw [LA.out] at this; rw [this])
  have KX : Hid ((R.get (A ++ (R.bytes (k, B)) ++ L) (la : Int)).2.1 = (k, B)) := Lib.hid (by have := R.get_put HOK.out A L; rw [LA.out] at this; rw [this])
  have hgoal : True := trivial
  refine (recGet_any a6 (la + n3 + lb) c6 la _ _ h9 LD.out R6.out Z6.out).mono ?_
  rintro e w7 hget
  obtain ⟨⟨k7', a7', n7', c7', b7'⟩, rfl, HX7, ho7, _, hb7'⟩ := hget.place
  rw [KT.out]
  rw [KE.out]
  have hb7 := hb7'.trans ((recBox_below w7 k7' a7' n7' c7').mono hb7'.size)
  have HO7 := Lib.hid (ho7.out.below (recBox_below w7 k7' a7' n7' c7'))
  clear hget ho7 hb7'
  have C7 := Lib.hid hb7
  have B7 := Lib.hid (B6.out.trans (hb7.mono B6.out.size))
  have W7 := Lib.hid (W6.out.trans (hb7.mono W6.out.size))
  clear hb7
  have X7 := Lib.hid (Below.refl (recBox w7 k7' a7' n7' c7').heap.size (recBox w7 k7' a7' n7' c7'))
  clear k0 k1
  have k0 := recBox_kind w k a n cap B7.out
  have k1 := recBox_body w k a n cap B7.out
  have f7' := recBox_kind w7 k7' a7' n7' c7' X7.out
  have g7' := recBox_body w7 k7' a7' n7' c7' X7.out
  unfold recBox at k0 k1 f7' g7'
  have EX : Hid (decide (((k7', b7') : R.T) = (k, B)) = true) := Lib.hid (decide_eq_true (HX7.out.trans KX.out))
  have hend : ((((la + n3 : Nat) : Int)) != (la : Int) + (n3 : Int)) = false := by simp
  go_wp2_with fail
  refine (same_any k7' k a7' a n7' n c7' cap b7' B _ HO7.out.1 HL.out HO7.out.2.1 (HR.out.below B7.out)).mono ?_
  rintro e w8 ⟨rfl, hb8⟩
  rw [EX.out]
  have C8 := Lib.hid hb8
  have B8 := Lib.hid (B7.out.trans (hb8.mono B7.out.size))
  have X8 := Lib.hid (X7.out.trans (hb8.mono X7.out.size))
  have W8 := Lib.hid (W7.out.trans (hb8.mono W7.out.size))
  clear hb8
  clear k0 k1 f7' g7'
  have k0 := recBox_kind w k a n cap B8.out
  have k1 := recBox_body w k a n cap B8.out
  have f7' := recBox_kind w7 k7' a7' n7' c7' X8.out
  have g7' := recBox_body w7 k7' a7' n7' c7' X8.out
  go_wp2_with fail
  refine (recGet_any ab lb cb p L _ h9b LB.out (RB.out.below B8.out) ZB.out).mono ?_
  rintro e w9 hget
  obtain ⟨⟨k9', a9', n9', c9', b9'⟩, rfl, HX9, ho9, _, hb9'⟩ := hget.place
  rw [JT.out]
  rw [JE.out]
  have hb9 := hb9'.trans ((recBox_below w9 k9' a9' n9' c9').mono hb9'.size)
  have HO9 := Lib.hid (ho9.out.below (recBox_below w9 k9' a9' n9' c9'))
  clear hget ho9 hb9'
  have C9 := Lib.hid hb9
  have B9 := Lib.hid (B8.out.trans (hb9.mono B8.out.size))
  have X9 := Lib.hid (X8.out.trans (hb9.mono X8.out.size))
  have W9 := Lib.hid (W8.out.trans (hb9.mono W8.out.size))
  clear hb9
  have Y9 := Lib.hid (Below.refl (recBox w9 k9' a9' n9' c9').heap.size (recBox w9 k9' a9' n9' c9'))
  clear k0 k1 f7' g7'
  have k0 := recBox_kind w k a n cap B9.out
  have k1 := recBox_body w k a n cap B9.out
  have f7' := recBox_kind w7 k7' a7' n7' c7' X9.out
  have g7' := recBox_body w7 k7' a7' n7' c7' X9.out
  have f9' := recBox_kind w9 k9' a9' n9' c9' Y9.out
  have g9' := recBox_body w9 k9' a9' n9' c9' Y9.out
  have hk0 : k9' = 0 ∧ b9' = [] := by have := HX9.out; rw [JX.out] at this; cases this; exact ⟨rfl, rfl⟩
  obtain ⟨rfl, rfl⟩ := hk0
  have hn0 : n9' = 0 := HO9.out.1.symm
  subst hn0
  go_wp2
  go_ret
  exact ⟨rfl, W9.out⟩

set_option maxRecDepth 100000 in
set_option maxHeartbeats 1000000 in
theorem back_none_ok (k : Int) (a : Option Addr) (n cap : Nat) (aa : Option Addr) (la ca : Nat) (ab : Option Addr) (lb cb : Nat) (p : Int) (B A L : List Int) (w : World) (hl : B.length = n) (hr : RowIn .u8 w a cap B) (hz : a = none → n = 0 ∧ cap = 0) (hla : A.length = la) (hra : RowIn .u8 w aa ca A) (hza : aa = none → la = 0 ∧ ca = 0) (hlb : L.length = lb) (hrb : RowIn .u8 w ab cb L) (hzb : ab = none → lb = 0 ∧ cb = 0) (hf : n ≤ 1100) (hla1 : la ≤ 1100) (hlb3 : lb ≤ 3000) (hok : ¬ R.ok (k, B)) (q E : Nat) (r : R.T) (hp : p = (q : Int)) (hg : R.get L p = (0, r, (E : Int))) (hro : R.ok r) (hrb' : (L.take E).drop q = R.bytes r) (hqE0 : q < E) (hEl0 : E ≤ lb) :
    Calls Try.prog 4 #[.agg #[.int .i64 k, .slice a n cap], .slice aa la ca, .slice ab lb cb, .int .i64 p] w fun e w' => e = .returned (.bool true) ∧ Below w.heap.size w w' := by
  obtain ⟨i0, hi, hz0, hz1, hz2⟩ := info_parts info5
  have HBX := Lib.hid (recBox_below w k a n cap)
  have HL := Lib.hid hl
  have HR := Lib.hid (hr.below (recBox_below w k a n cap))
  have HZ := Lib.hid hz
  have HF := Lib.hid (decide_eq_true hf)
  have d1 : decide ((1100 : Int) < (la : Int)) = false := by simp; omega
  have d2 : decide ((3000 : Int) < (lb : Int)) = false := by simp; omega
  have h9b : lb ≤ 90000 := by omega
  have LA := Lib.hid hla
  have RA := Lib.hid (hra.below (recBox_below w k a n cap))
  have ZA := Lib.hid hza
  have LB := Lib.hid hlb
  have RB := Lib.hid (hrb.below (recBox_below w k a n cap))
  have ZB := Lib.hid hzb
  have HOK := Lib.hid hok
  have HP := Lib.hid (R.put_no hok)
  have HPL : Hid (([] : List Int).length ≤ 1007) := Lib.hid (by simp)
  subst hp
  have JT : Hid ((R.get L (q : Int)).2.2 = (E : Int)) := Lib.hid (by rw [hg])
  have JE : Hid ((R.get L (q : Int)).1 = 0) := Lib.hid (by rw [hg])
  have JX : Hid ((R.get L (q : Int)).2.1 = r) := Lib.hid (by rw [hg])
  have JR := Lib.hid hro
  have JB := Lib.hid hrb'
  have hqE : q ≤ E := by omega
  have hEl : E ≤ lb := hEl0
  have hEc : E ≤ cb := by have := hrb.1.1; omega
  have hcb : cb ≤ maxLen := hrb.1.2
  have q3 : decide ((0 : Int) ≤ (q : Int)) = true := by simp
  have q4 : decide ((q : Int) < (E : Int)) = true := by simp; omega
  have q5 : decide ((E : Int) ≤ (lb : Int)) = true := by simp; omega
  obtain ⟨sv, hsv⟩ : ∃ s, strOf (R.bytes r) = s := ⟨_, rfl⟩
  have KSV := Lib.hid hsv
  clear hl hr hz hf hla hra hza hlb hrb hzb hok hg hro hrb' hsv
  go_enter Try.func4, Try.ntmps4
  go_wp2_with fail
  refine (awake_any (recBox w k a n cap)).mono ?_
  rintro e w1 ⟨rfl, hb1⟩
  have B1 : Hid (Below (recBox w k a n cap).heap.size (recBox w k a n cap) w1) := Lib.hid hb1
  have W1 : Hid (Below w.heap.size w w1) := Lib.hid (HBX.out.trans (hb1.mono HBX.out.size))
  clear hb1
  have k0 := recBox_kind w k a n cap B1.out
  have k1 := recBox_body w k a n cap B1.out
  go_wp2_with fail
  refine (few1_any k a n cap B true _ ⟨HL.out, HR.out.below B1.out, HZ.out⟩ HF.out).mono ?_
  rintro e w2 ⟨rfl, hb2⟩
  have C2 := Lib.hid hb2
  have B2 := Lib.hid (B1.out.trans (hb2.mono B1.out.size))
  have W2 := Lib.hid (W1.out.trans (hb2.mono W1.out.size))
  clear hb2
  clear k0 k1
  have k0 := recBox_kind w k a n cap B2.out
  have k1 := recBox_body w k a n cap B2.out
  go_wp2_with fail
  refine (recPut_any k a n cap B _ HL.out (HR.out.below B2.out) HZ.out).mono ?_
  rintro e w3 ⟨a3, c3, n3, rfl, l3, r3, z3, hb3⟩
  have C3 := Lib.hid hb3
  have B3 := Lib.hid (B2.out.trans (hb3.mono B2.out.size))
  have W3 := Lib.hid (W2.out.trans (hb3.mono W2.out.size))
  clear hb3
  rw [HP.out] at l3 r3 ⊢
  have L3 := Lib.hid (show ([] : List Int).length = n3 from l3.out)
  have R3 := Lib.hid (show RowIn .u8 w3 a3 c3 ([] : List Int) from r3.out)
  have hn3 : n3 ≤ 1007 := by rw [← L3.out]; exact HPL.out
  have hsm : (none : Option (List Int)).isSome = false := rfl
  clear l3 r3
  clear k0 k1
  have k0 := recBox_kind w k a n cap B3.out
  have k1 := recBox_body w k a n cap B3.out
  have RA3 := Lib.hid (RA.out.below B3.out)
  have RB3 := Lib.hid (RB.out.below B3.out)
  have HWD : Hid (∀ c ∈ A ++ ([] : List Int) ++ L, (Lit.int .u8 c).wf = true) := Lib.hid (fun c hc => by
    rcases List.mem_append.1 hc with hc | hc
    · rcases List.mem_append.1 hc with hc | hc
      · exact RA.out.2.1 c hc
      · exact R3.out.2.1 c hc
    · exact RB.out.2.1 c hc)
  go_wp2_with (first
    | (at_builtin; refine wpList_append_row _ rfl _ _ 22 rfl w3.heap.size 5 i0 (.int .u8 0) 1 Try.underlying22 hi hz0 hz1 hz2 rfl (.slice none 0 0) 0 [] rfl (World.ownsRow_nil _ _ _ _) .u8 aa la ca A rfl RA3.out LA.out ZA.out (by unfold maxLen; omega) (by omega) (Nat.le_refl _) ?_; intro v4 w4 hown4 hgrow4; have HO4 : Hid (w4.ownsRow w3.heap.size 5 1 v4 la (A.map (Value.int .u8))) := Lib.hid (by simpa using hown4); have HB4 : Hid (Below w3.heap.size w3 w4) := Lib.hid ((Below.refl _ w3).grown hgrow4 (Nat.le_refl _) (fun k ek => by cases ek)); clear hown4 hgrow4)
    | (at_builtin; refine wpList_append_row _ rfl _ _ 22 rfl w3.heap.size 5 i0 (.int .u8 0) 1 Try.underlying22 hi hz0 hz1 hz2 rfl v4 la (A.map (Value.int .u8)) rfl HO4.out .u8 a3 n3 c3 ([] : List Int) rfl (R3.out.below HB4.out) L3.out z3.out (by unfold maxLen; omega) (by omega) HB4.out.size ?_; intro v5 w5 hown5 hgrow5; have HO5 : Hid (w5.ownsRow w3.heap.size 5 1 v5 (la + n3) ((A ++ ([] : List Int)).map (Value.int .u8))) := Lib.hid (by simpa using hown5); have HB5 : Hid (Below w3.heap.size w3 w5) := Lib.hid (below_appended0 HO4.out HB4.out.size HB4.out hgrow5); clear hown5 hgrow5)
    | (at_builtin; refine wpList_append_row _ rfl _ _ 22 rfl w3.heap.size 5 i0 (.int .u8 0) 1 Try.underlying22 hi hz0 hz1 hz2 rfl v5 (la + n3) ((A ++ ([] : List Int)).map (Value.int .u8)) rfl HO5.out .u8 ab lb cb L rfl (RB3.out.below HB5.out) LB.out ZB.out (by unfold maxLen; omega) (by omega) HB5.out.size ?_; intro v6 w6 hown6 hgrow6; have hb6 : Below w3.heap.size w3 w6 := below_appended0 HO5.out HB5.out.size HB5.out hgrow6; obtain ⟨a6, c6, hv6, r6, z6⟩ := own_row3 (k := .u8) (L := A ++ ([] : List Int) ++ L) (by simpa using hown6) HWD.out; have R6 := Lib.hid r6; have Z6 := Lib.hid z6; subst hv6; clear hown6 hgrow6 r6 z6))
  have LD : Hid ((A ++ ([] : List Int) ++ L).length = la + n3 + lb) := Lib.hid (by rw [List.length_append, List.length_append, LA.out, L3.out, LB.out])
  have h9 : la + n3 + lb ≤ 90000 := by omega
  have C6 := Lib.hid hb6
  have B6 := Lib.hid (B3.out.trans (hb6.mono B3.out.size))
  have W6 := Lib.hid (W3.out.trans (hb6.mono W3.out.size))
  clear hb6
  clear k0 k1
  have k0 := recBox_kind w k a n cap B6.out
  have k1 := recBox_body w k a n cap B6.out
  obtain ⟨t7, ht7⟩ : ∃ t, (R.get (A ++ ([] : List Int) ++ L) (la : Int)).2.2 = t := ⟨_, rfl⟩
  obtain ⟨e7, he7⟩ : ∃ t, (R.get (A ++ ([] : List Int) ++ L) (la : Int)).1 = t := ⟨_, rfl⟩
  have KT := Lib.hid ht7
  have KE := Lib.hid he7
  clear ht7 he7
  have hgoal : True := trivial
  refine (recGet_any a6 (la + n3 + lb) c6 la _ _ h9 LD.out R6.out Z6.out).mono ?_
  rintro e w7 hget
  obtain ⟨⟨k7', a7', n7', c7', b7'⟩, rfl, HX7, ho7, _, hb7'⟩ := hget.place
  rw [KT.out]
  rw [KE.out]
  have hb7 := hb7'.trans ((recBox_below w7 k7' a7' n7' c7').mono hb7'.size)
  have HO7 := Lib.hid (ho7.out.below (recBox_below w7 k7' a7' n7' c7'))
  clear hget ho7 hb7'
  have C7 := Lib.hid hb7
  have B7 := Lib.hid (B6.out.trans (hb7.mono B6.out.size))
  have W7 := Lib.hid (W6.out.trans (hb7.mono W6.out.size))
  clear hb7
  have X7 := Lib.hid (Below.refl (recBox w7 k7' a7' n7' c7').heap.size (recBox w7 k7' a7' n7' c7'))
  clear k0 k1
  have k0 := recBox_kind w k a n cap B7.out
  have k1 := recBox_body w k a n cap B7.out
  have f7' := recBox_kind w7 k7' a7' n7' c7' X7.out
  have g7' := recBox_body w7 k7' a7' n7' c7' X7.out
  go_wp2_with fail
  refine (recGet_any ab lb cb (q : Int) L _ h9b LB.out (RB.out.below B7.out) ZB.out).mono ?_
  rintro e w8 hget
  obtain ⟨⟨k8', a8', n8', c8', b8'⟩, rfl, HX8, ho8, _, hb8'⟩ := hget.place
  rw [JT.out]
  rw [JE.out]
  have hb8 := hb8'.trans ((recBox_below w8 k8' a8' n8' c8').mono hb8'.size)
  have HO8 := Lib.hid (ho8.out.below (recBox_below w8 k8' a8' n8' c8'))
  clear hget ho8 hb8'
  have C8 := Lib.hid hb8
  have B8 := Lib.hid (B7.out.trans (hb8.mono B7.out.size))
  have X8 := Lib.hid (X7.out.trans (hb8.mono X7.out.size))
  have W8 := Lib.hid (W7.out.trans (hb8.mono W7.out.size))
  clear hb8
  have Y8 := Lib.hid (Below.refl (recBox w8 k8' a8' n8' c8').heap.size (recBox w8 k8' a8' n8' c8'))
  clear k0 k1 f7' g7'
  have k0 := recBox_kind w k a n cap B8.out
  have k1 := recBox_body w k a n cap B8.out
  have f7' := recBox_kind w7 k7' a7' n7' c7' X8.out
  have g7' := recBox_body w7 k7' a7' n7' c7' X8.out
  have f8' := recBox_kind w8 k8' a8' n8' c8' Y8.out
  have g8' := recBox_body w8 k8' a8' n8' c8' Y8.out
  have hk0 : ((k8', b8') : R.T) = r := by have := HX8.out; rw [JX.out] at this; exact this
  have HPR : Hid (R.put (k8', b8') = some (R.bytes r)) := Lib.hid (by rw [hk0]; exact R.put_yes JR.out)
  clear hk0
  go_wp2_with fail
  refine (recPut_any k8' a8' n8' c8' b8' _ HO8.out.1 HO8.out.2.1 HO8.out.2.2).mono ?_
  rintro e w9 ⟨aP, cP, nP, rfl, lP, rP, zP, hb9⟩
  have C9 := Lib.hid hb9
  have B9 := Lib.hid (B8.out.trans (hb9.mono B8.out.size))
  have X9 := Lib.hid (X8.out.trans (hb9.mono X8.out.size))
  have Y9 := Lib.hid (Y8.out.trans (hb9.mono Y8.out.size))
  have W9 := Lib.hid (W8.out.trans (hb9.mono W8.out.size))
  clear hb9
  rw [HPR.out] at lP rP ⊢
  have LP := Lib.hid (show (R.bytes r).length = nP from lP.out)
  have RP' := Lib.hid (show RowIn .u8 w9 aP cP (R.bytes r) from rP.out)
  have hsq : (some (R.bytes r)).isSome = true := rfl
  clear k0 k1 f7' g7' f8' g8'
  have k0 := recBox_kind w k a n cap B9.out
  have k1 := recBox_body w k a n cap B9.out
  have f7' := recBox_kind w7 k7' a7' n7' c7' X9.out
  have g7' := recBox_body w7 k7' a7' n7' c7' X9.out
  have f8' := recBox_kind w8 k8' a8' n8' c8' Y9.out
  have g8' := recBox_body w8 k8' a8' n8' c8' Y9.out
  have RBJ := Lib.hid (RB.out.below B9.out)
  have RS := Lib.hid (show RowIn .u8 w9 (sl ab q cb) (cb - q) (R.bytes r) from by have := row_sliced RBJ.out (l := q) (h := E) (m := cb) hqE (by rw [LB.out]; exact hEl) hEc hcb; rw [JB.out] at this; exact this)
  have LS : Hid ((R.bytes r).length = E - q) := Lib.hid (by have h1 := congrArg List.length JB.out; rw [← h1]; have := LB.out; simp; omega)
  clear lP rP zP hsq
  clear k0 k1 f7' g7' f8' g8'
  go_wp2_with fail
  refine wp_region_held (S := fun w' => Below w9.heap.size w9 w') (by kernel_rfl) ?_
  change wpAnyH _ _ _ _ _ _ _ _ (World.drew w9)
  have HS0 : (fun w' => Below w9.heap.size w9 w') (World.drew w9) := below_drew w9
  refine wpAnyH_take (i := 0) (v := (.bool true)) rfl (by kernel_rfl) (by kernel_rfl) (by kernel_rfl) (fun _ _ _ h => h) (.inl ⟨by kernel_rfl, fun w9 hS => by kernel_rfl⟩) HS0 ?_
  refine wpAnyH_take (i := 1) (v := (.bool true)) rfl (by kernel_rfl) (by kernel_rfl) (by kernel_rfl) (fun _ _ _ h => h) (.inl ⟨by kernel_rfl, fun w9 hS => by kernel_rfl⟩) HS0 ?_
  refine wpAnyH_take (i := 2) (v := (.int .i64 (q : Int))) rfl (by kernel_rfl) (by kernel_rfl) (by kernel_rfl) (fun _ _ _ h => h) (.inl ⟨by kernel_rfl, fun w9 hS => by kernel_rfl⟩) HS0 ?_
  refine wpAnyH_take (i := 3) (v := (.bool true)) rfl (by kernel_rfl) (by kernel_rfl) (by kernel_rfl) (fun _ _ _ h => h) (.inl ⟨by kernel_rfl, fun w9 hS => (show _ = Result.ok (.value (.bool (decide ((0 : Int) ≤ (q : Int))))) w9 by kernel_rfl).trans (by rw [q3])⟩) HS0 ?_
  refine wpAnyH_take (i := 4) (v := (.bool true)) rfl (by kernel_rfl) (by kernel_rfl) (by kernel_rfl) (fun _ _ _ h => h) (.inl ⟨by kernel_rfl, fun w9 hS => by kernel_rfl⟩) HS0 ?_
  refine wpAnyH_take (i := 5) (v := (.bool true)) rfl (by kernel_rfl) (by kernel_rfl) (by kernel_rfl) (fun _ _ _ h => h) (.inl ⟨by kernel_rfl, fun w9 hS => by kernel_rfl⟩) HS0 ?_
  refine wpAnyH_take (i := 6) (v := (.int .i64 (E : Int))) rfl (by kernel_rfl) (by kernel_rfl) (by kernel_rfl) (fun _ _ _ h => h) (.inl ⟨by kernel_rfl, fun w9 hS => by kernel_rfl⟩) HS0 ?_
  refine wpAnyH_take (i := 7) (v := (.int .i64 (q : Int))) rfl (by kernel_rfl) (by kernel_rfl) (by kernel_rfl) (fun _ _ _ h => h) (.inl ⟨by kernel_rfl, fun w9 hS => by kernel_rfl⟩) HS0 ?_
  refine wpAnyH_take (i := 8) (v := (.bool true)) rfl (by kernel_rfl) (by kernel_rfl) (by kernel_rfl) (fun _ _ _ h => h) (.inl ⟨by kernel_rfl, fun w9 hS => (show _ = Result.ok (.value (.bool (decide ((q : Int) < (E : Int))))) w9 by kernel_rfl).trans (by rw [q4])⟩) HS0 ?_
  refine wpAnyH_take (i := 9) (v := (.bool true)) rfl (by kernel_rfl) (by kernel_rfl) (by kernel_rfl) (fun _ _ _ h => h) (.inl ⟨by kernel_rfl, fun w9 hS => by kernel_rfl⟩) HS0 ?_
  refine wpAnyH_take (i := 10) (v := (.bool true)) rfl (by kernel_rfl) (by kernel_rfl) (by kernel_rfl) (fun _ _ _ h => h) (.inl ⟨by kernel_rfl, fun w9 hS => by kernel_rfl⟩) HS0 ?_
  refine wpAnyH_take (i := 11) (v := (.int .i64 (E : Int))) rfl (by kernel_rfl) (by kernel_rfl) (by kernel_rfl) (fun _ _ _ h => h) (.inl ⟨by kernel_rfl, fun w9 hS => by kernel_rfl⟩) HS0 ?_
  refine wpAnyH_take (i := 12) (v := (.slice ab lb cb)) rfl (by kernel_rfl) (by kernel_rfl) (by kernel_rfl) (fun _ _ _ h => h) (.inl ⟨by kernel_rfl, fun w9 hS => by kernel_rfl⟩) HS0 ?_
  refine wpAnyH_take (i := 13) (v := (.int .i64 (lb : Int))) rfl (by kernel_rfl) (by kernel_rfl) (by kernel_rfl) (fun _ _ _ h => h) (.inl ⟨by kernel_rfl, fun w9 hS => by kernel_rfl⟩) HS0 ?_
  refine wpAnyH_take (i := 14) (v := (.bool true)) rfl (by kernel_rfl) (by kernel_rfl) (by kernel_rfl) (fun _ _ _ h => h) (.inl ⟨by kernel_rfl, fun w9 hS => (show _ = Result.ok (.value (.bool (decide ((E : Int) ≤ (lb : Int))))) w9 by kernel_rfl).trans (by rw [q5])⟩) HS0 ?_
  refine wpAnyH_take (i := 15) (v := (.bool true)) rfl (by kernel_rfl) (by kernel_rfl) (by kernel_rfl) (fun _ _ _ h => h) (.inl ⟨by kernel_rfl, fun w9 hS => by kernel_rfl⟩) HS0 ?_
  refine wpAnyH_take (i := 16) (v := (.bool true)) rfl (by kernel_rfl) (by kernel_rfl) (by kernel_rfl) (fun _ _ _ h => h) (.inl ⟨by kernel_rfl, fun w9 hS => by kernel_rfl⟩) HS0 ?_
  refine wpAnyH_take (i := 17) (v := (.slice aP nP cP)) rfl (by kernel_rfl) (by kernel_rfl) (by kernel_rfl) (fun _ _ _ h => h) (.inl ⟨by kernel_rfl, fun w9 hS => by kernel_rfl⟩) HS0 ?_
  refine wpAnyH_take (i := 18) (v := (.string sv)) rfl (by kernel_rfl) (by kernel_rfl) (by kernel_rfl) (fun _ _ _ h => h) (.inl ⟨by kernel_rfl, fun w9 hS => by have k := conv_row (RP'.out.below hS) LP.out; rw [KSV.out] at k; go_simp⟩) HS0 ?_
  refine wpAnyH_take (i := 19) (v := (.slice ab lb cb)) rfl (by kernel_rfl) (by kernel_rfl) (by kernel_rfl) (fun _ _ _ h => h) (.inl ⟨by kernel_rfl, fun w9 hS => by kernel_rfl⟩) HS0 ?_
  refine wpAnyH_take (i := 20) (v := (.int .i64 (q : Int))) rfl (by kernel_rfl) (by kernel_rfl) (by kernel_rfl) (fun _ _ _ h => h) (.inl ⟨by kernel_rfl, fun w9 hS => by kernel_rfl⟩) HS0 ?_
  refine wpAnyH_take (i := 21) (v := (.int .i64 (E : Int))) rfl (by kernel_rfl) (by kernel_rfl) (by kernel_rfl) (fun _ _ _ h => h) (.inl ⟨by kernel_rfl, fun w9 hS => by kernel_rfl⟩) HS0 ?_
  refine wpAnyH_take (i := 22) (v := (.slice (sl ab q cb) (E - q) (cb - q))) rfl (by kernel_rfl) (by kernel_rfl) (by kernel_rfl) (fun _ _ _ h => h) (.inl ⟨by kernel_rfl, fun w9 hS => exec_slice2 (a := ab) (len := lb) (cap := cb) (l := q) (h := E) rfl (by kernel_rfl) (by kernel_rfl) (by kernel_rfl) hqE hEc w9⟩) HS0 ?_
  refine wpAnyH_take (i := 23) (v := (.string sv)) rfl (by kernel_rfl) (by kernel_rfl) (by kernel_rfl) (fun _ _ _ h => h) (.inl ⟨by kernel_rfl, fun w9 hS => by have k := conv_row (RS.out.below hS) LS.out; rw [KSV.out] at k; go_simp⟩) HS0 ?_
  refine wpAnyH_take (i := 24) (v := (.bool true)) rfl (by kernel_rfl) (by kernel_rfl) (by kernel_rfl) (fun _ _ _ h => h) (.inl ⟨by kernel_rfl, fun w9 hS => (show _ = Result.ok (.value (.bool (sv.toList == sv.toList))) w9 by kernel_rfl).trans (by rw [beq_self_eq_true])⟩) HS0 ?_
  refine wpAnyH_take (i := 25) (v := (.bool true)) rfl (by kernel_rfl) (by kernel_rfl) (by kernel_rfl) (fun _ _ _ h => h) (.inl ⟨by kernel_rfl, fun w9 hS => by kernel_rfl⟩) HS0 ?_
  refine wpAnyH_take (i := 26) (v := (.bool true)) rfl (by kernel_rfl) (by kernel_rfl) (by kernel_rfl) (fun _ _ _ h => h) (.inl ⟨by kernel_rfl, fun w9 hS => by kernel_rfl⟩) HS0 ?_
  refine wpAnyH_done (by kernel_rfl) ?_ _
  go_wp2
  go_ret
  exact ⟨rfl, W9.out.trans (Below.mono HS0 W9.out.size)⟩

set_option maxRecDepth 100000 in
set_option maxHeartbeats 1000000 in
theorem back_none_err (k : Int) (a : Option Addr) (n cap : Nat) (aa : Option Addr) (la ca : Nat) (ab : Option Addr) (lb cb : Nat) (p : Int) (B A L : List Int) (w : World) (hl : B.length = n) (hr : RowIn .u8 w a cap B) (hz : a = none → n = 0 ∧ cap = 0) (hla : A.length = la) (hra : RowIn .u8 w aa ca A) (hza : aa = none → la = 0 ∧ ca = 0) (hlb : L.length = lb) (hrb : RowIn .u8 w ab cb L) (hzb : ab = none → lb = 0 ∧ cb = 0) (hf : n ≤ 1100) (hla1 : la ≤ 1100) (hlb3 : lb ≤ 3000) (hok : ¬ R.ok (k, B)) (er : Int) (hne : er ≠ 0) (hg : R.get L p = (er, (0, []), 0)) :
    Calls Try.prog 4 #[.agg #[.int .i64 k, .slice a n cap], .slice aa la ca, .slice ab lb cb, .int .i64 p] w fun e w' => e = .returned (.bool true) ∧ Below w.heap.size w w' := by
  obtain ⟨i0, hi, hz0, hz1, hz2⟩ := info_parts info5
  have HBX := Lib.hid (recBox_below w k a n cap)
  have HL := Lib.hid hl
  have HR := Lib.hid (hr.below (recBox_below w k a n cap))
  have HZ := Lib.hid hz
  have HF := Lib.hid (decide_eq_true hf)
  have d1 : decide ((1100 : Int) < (la : Int)) = false := by simp; omega
  have d2 : decide ((3000 : Int) < (lb : Int)) = false := by simp; omega
  have h9b : lb ≤ 90000 := by omega
  have LA := Lib.hid hla
  have RA := Lib.hid (hra.below (recBox_below w k a n cap))
  have ZA := Lib.hid hza
  have LB := Lib.hid hlb
  have RB := Lib.hid (hrb.below (recBox_below w k a n cap))
  have ZB := Lib.hid hzb
  have HOK := Lib.hid hok
  have HP := Lib.hid (R.put_no hok)
  have HPL : Hid (([] : List Int).length ≤ 1007) := Lib.hid (by simp)
  have JT : Hid ((R.get L p).2.2 = 0) := Lib.hid (by rw [hg])
  have JE : Hid ((R.get L p).1 = er) := Lib.hid (by rw [hg])
  have JX : Hid ((R.get L p).2.1 = (0, [])) := Lib.hid (by rw [hg])
  have q1 : (er != 0) = true := by simpa using hne
  have q2 : (er == 0) = false := by simpa using hne
  clear hl hr hz hf hla hra hza hlb hrb hzb hok hg hne
  go_enter Try.func4, Try.ntmps4
  go_wp2_with fail
  refine (awake_any (recBox w k a n cap)).mono ?_
  rintro e w1 ⟨rfl, hb1⟩
  have B1 : Hid (Below (recBox w k a n cap).heap.size (recBox w k a n cap) w1) := Lib.hid hb1
  have W1 : Hid (Below w.heap.size w w1) := Lib.hid (HBX.out.trans (hb1.mono HBX.out.size))
  clear hb1
  have k0 := recBox_kind w k a n cap B1.out
  have k1 := recBox_body w k a n cap B1.out
  go_wp2_with fail
  refine (few1_any k a n cap B true _ ⟨HL.out, HR.out.below B1.out, HZ.out⟩ HF.out).mono ?_
  rintro e w2 ⟨rfl, hb2⟩
  have C2 := Lib.hid hb2
  have B2 := Lib.hid (B1.out.trans (hb2.mono B1.out.size))
  have W2 := Lib.hid (W1.out.trans (hb2.mono W1.out.size))
  clear hb2
  clear k0 k1
  have k0 := recBox_kind w k a n cap B2.out
  have k1 := recBox_body w k a n cap B2.out
  go_wp2_with fail
  refine (recPut_any k a n cap B _ HL.out (HR.out.below B2.out) HZ.out).mono ?_
  rintro e w3 ⟨a3, c3, n3, rfl, l3, r3, z3, hb3⟩
  have C3 := Lib.hid hb3
  have B3 := Lib.hid (B2.out.trans (hb3.mono B2.out.size))
  have W3 := Lib.hid (W2.out.trans (hb3.mono W2.out.size))
  clear hb3
  rw [HP.out] at l3 r3 ⊢
  have L3 := Lib.hid (show ([] : List Int).length = n3 from l3.out)
  have R3 := Lib.hid (show RowIn .u8 w3 a3 c3 ([] : List Int) from r3.out)
  have hn3 : n3 ≤ 1007 := by rw [← L3.out]; exact HPL.out
  have hsm : (none : Option (List Int)).isSome = false := rfl
  clear l3 r3
  clear k0 k1
  have k0 := recBox_kind w k a n cap B3.out
  have k1 := recBox_body w k a n cap B3.out
  have RA3 := Lib.hid (RA.out.below B3.out)
  have RB3 := Lib.hid (RB.out.below B3.out)
  have HWD : Hid (∀ c ∈ A ++ ([] : List Int) ++ L, (Lit.int .u8 c).wf = true) := Lib.hid (fun c hc => by
    rcases List.mem_append.1 hc with hc | hc
    · rcases List.mem_append.1 hc with hc | hc
      · exact RA.out.2.1 c hc
      · exact R3.out.2.1 c hc
    · exact RB.out.2.1 c hc)
  go_wp2_with (first
    | (at_builtin; refine wpList_append_row _ rfl _ _ 22 rfl w3.heap.size 5 i0 (.int .u8 0) 1 Try.underlying22 hi hz0 hz1 hz2 rfl (.slice none 0 0) 0 [] rfl (World.ownsRow_nil _ _ _ _) .u8 aa la ca A rfl RA3.out LA.out ZA.out (by unfold maxLen; omega) (by omega) (Nat.le_refl _) ?_; intro v4 w4 hown4 hgrow4; have HO4 : Hid (w4.ownsRow w3.heap.size 5 1 v4 la (A.map (Value.int .u8))) := Lib.hid (by simpa using hown4); have HB4 : Hid (Below w3.heap.size w3 w4) := Lib.hid ((Below.refl _ w3).grown hgrow4 (Nat.le_refl _) (fun k ek => by cases ek)); clear hown4 hgrow4)
    | (at_builtin; refine wpList_append_row _ rfl _ _ 22 rfl w3.heap.size 5 i0 (.int .u8 0) 1 Try.underlying22 hi hz0 hz1 hz2 rfl v4 la (A.map (Value.int .u8)) rfl HO4.out .u8 a3 n3 c3 ([] : List Int) rfl (R3.out.below HB4.out) L3.out z3.out (by unfold maxLen; omega) (by omega) HB4.out.size ?_; intro v5 w5 hown5 hgrow5; have HO5 : Hid (w5.ownsRow w3.heap.size 5 1 v5 (la + n3) ((A ++ ([] : List Int)).map (Value.int .u8))) := Lib.hid (by simpa using hown5); have HB5 : Hid (Below w3.heap.size w3 w5) := Lib.hid (below_appended0 HO4.out HB4.out.size HB4.out hgrow5); clear hown5 hgrow5)
    | (at_builtin; refine wpList_append_row _ rfl _ _ 22 rfl w3.heap.size 5 i0 (.int .u8 0) 1 Try.underlying22 hi hz0 hz1 hz2 rfl v5 (la + n3) ((A ++ ([] : List Int)).map (Value.int .u8)) rfl HO5.out .u8 ab lb cb L rfl (RB3.out.below HB5.out) LB.out ZB.out (by unfold maxLen; omega) (by omega) HB5.out.size ?_; intro v6 w6 hown6 hgrow6; have hb6 : Below w3.heap.size w3 w6 := below_appended0 HO5.out HB5.out.size HB5.out hgrow6; obtain ⟨a6, c6, hv6, r6, z6⟩ := own_row3 (k := .u8) (L := A ++ ([] : List Int) ++ L) (by simpa using hown6) HWD.out; have R6 := Lib.hid r6; have Z6 := Lib.hid z6; subst hv6; clear hown6 hgrow6 r6 z6))
  have LD : Hid ((A ++ ([] : List Int) ++ L).length = la + n3 + lb) := Lib.hid (by rw [List.length_append, List.length_append, LA.out, L3.out, LB.out])
  have h9 : la + n3 + lb ≤ 90000 := by omega
  have C6 := Lib.hid hb6
  have B6 := Lib.hid (B3.out.trans (hb6.mono B3.out.size))
  have W6 := Lib.hid (W3.out.trans (hb6.mono W3.out.size))
  clear hb6
  clear k0 k1
  have k0 := recBox_kind w k a n cap B6.out
  have k1 := recBox_body w k a n cap B6.out
  obtain ⟨t7, ht7⟩ : ∃ t, (R.get (A ++ ([] : List Int) ++ L) (la : Int)).2.2 = t := ⟨_, rfl⟩
  obtain ⟨e7, he7⟩ : ∃ t, (R.get (A ++ ([] : List Int) ++ L) (la : Int)).1 = t := ⟨_, rfl⟩
  have KT := Lib.hid ht7
  have KE := Lib.hid he7
  clear ht7 he7
  have hgoal : True := trivial
  refine (recGet_any a6 (la + n3 + lb) c6 la _ _ h9 LD.out R6.out Z6.out).mono ?_
  rintro e w7 hget
  obtain ⟨⟨k7', a7', n7', c7', b7'⟩, rfl, HX7, ho7, _, hb7'⟩ := hget.place
  rw [KT.out]
  rw [KE.out]
  have hb7 := hb7'.trans ((recBox_below w7 k7' a7' n7' c7').mono hb7'.size)
  have HO7 := Lib.hid (ho7.out.below (recBox_below w7 k7' a7' n7' c7'))
  clear hget ho7 hb7'
  have C7 := Lib.hid hb7
  have B7 := Lib.hid (B6.out.trans (hb7.mono B6.out.size))
  have W7 := Lib.hid (W6.out.trans (hb7.mono W6.out.size))
  clear hb7
  have X7 := Lib.hid (Below.refl (recBox w7 k7' a7' n7' c7').heap.size (recBox w7 k7' a7' n7' c7'))
  clear k0 k1
  have k0 := recBox_kind w k a n cap B7.out
  have k1 := recBox_body w k a n cap B7.out
  have f7' := recBox_kind w7 k7' a7' n7' c7' X7.out
  have g7' := recBox_body w7 k7' a7' n7' c7' X7.out
  go_wp2_with fail
  refine (recGet_any ab lb cb p L _ h9b LB.out (RB.out.below B7.out) ZB.out).mono ?_
  rintro e w8 hget
  obtain ⟨⟨k8', a8', n8', c8', b8'⟩, rfl, HX8, ho8, _, hb8'⟩ := hget.place
  rw [JT.out]
  rw [JE.out]
  have hb8 := hb8'.trans ((recBox_below w8 k8' a8' n8' c8').mono hb8'.size)
  have HO8 := Lib.hid (ho8.out.below (recBox_below w8 k8' a8' n8' c8'))
  clear hget ho8 hb8'
  have C8 := Lib.hid hb8
  have B8 := Lib.hid (B7.out.trans (hb8.mono B7.out.size))
  have X8 := Lib.hid (X7.out.trans (hb8.mono X7.out.size))
  have W8 := Lib.hid (W7.out.trans (hb8.mono W7.out.size))
  clear hb8
  have Y8 := Lib.hid (Below.refl (recBox w8 k8' a8' n8' c8').heap.size (recBox w8 k8' a8' n8' c8'))
  clear k0 k1 f7' g7'
  have k0 := recBox_kind w k a n cap B8.out
  have k1 := recBox_body w k a n cap B8.out
  have f7' := recBox_kind w7 k7' a7' n7' c7' X8.out
  have g7' := recBox_body w7 k7' a7' n7' c7' X8.out
  have f8' := recBox_kind w8 k8' a8' n8' c8' Y8.out
  have g8' := recBox_body w8 k8' a8' n8' c8' Y8.out
  have hk0 : k8' = 0 ∧ b8' = [] := by have := HX8.out; rw [JX.out] at this; cases this; exact ⟨rfl, rfl⟩
  obtain ⟨rfl, rfl⟩ := hk0
  have hn0 : n8' = 0 := HO8.out.1.symm
  subst hn0
  go_wp2
  go_ret
  exact ⟨rfl, W8.out⟩

theorem back_law (k : Int) (a : Option Addr) (n cap : Nat) (z : List Int) (aa : Option Addr) (la ca : Nat) (za : List Int) (ab : Option Addr) (lb cb : Nat) (zb : List Int) (p : Int) (w : World) (h : IsRow .u8 w a n cap z) (ha : IsRow .u8 w aa la ca za) (hb : IsRow .u8 w ab lb cb zb) :
    Calls Try.prog 4 #[.agg #[.int .i64 k, .slice a n cap], .slice aa la ca, .slice ab lb cb, .int .i64 p] w fun e w' => e = .returned (.bool true) ∧ Below w.heap.size w w' := by
  by_cases h1 : n ≤ 1100
  · by_cases h2 : la ≤ 1100
    · by_cases h3 : lb ≤ 3000
      · have hlb := hb.rowIn.2
        by_cases hok : R.ok (k, z.take n)
        · rcases R.get_cases (C.lit_wf hb.rowIn.1.2.1) p with ⟨e, he, hg⟩ | ⟨q, s, r, hp, hg, h5, h6, h7, h8⟩
          · exact back_put_err k a n cap aa la ca ab lb cb p _ _ _ w h.rowIn.2 h.rowIn.1 h.nil ha.rowIn.2 ha.rowIn.1 ha.nil hb.rowIn.2 hb.rowIn.1 hb.nil h1 h2 h3 hok e he hg
          · exact back_put_ok k a n cap aa la ca ab lb cb p _ _ _ w h.rowIn.2 h.rowIn.1 h.nil ha.rowIn.2 ha.rowIn.1 ha.nil hb.rowIn.2 hb.rowIn.1 hb.nil h1 h2 h3 hok q (q + s) r hp hg h5 h6 (by omega) (by omega)
        · rcases R.get_cases (C.lit_wf hb.rowIn.1.2.1) p with ⟨e, he, hg⟩ | ⟨q, s, r, hp, hg, h5, h6, h7, h8⟩
          · exact back_none_err k a n cap aa la ca ab lb cb p _ _ _ w h.rowIn.2 h.rowIn.1 h.nil ha.rowIn.2 ha.rowIn.1 ha.nil hb.rowIn.2 hb.rowIn.1 hb.nil h1 h2 h3 hok e he hg
          · exact back_none_ok k a n cap aa la ca ab lb cb p _ _ _ w h.rowIn.2 h.rowIn.1 h.nil ha.rowIn.2 ha.rowIn.1 ha.nil hb.rowIn.2 hb.rowIn.1 hb.nil h1 h2 h3 hok q (q + s) r hp hg h5 h6 (by omega) (by omega)
      · exact back_big k a n cap aa la ca ab lb cb p _ w h.rowIn.2 h.rowIn.1 h.nil (.inr (.inr ⟨h1, h2, by omega⟩))
    · exact back_big k a n cap aa la ca ab lb cb p _ w h.rowIn.2 h.rowIn.1 h.nil (.inr (.inl ⟨h1, by omega⟩))
  · exact back_big k a n cap aa la ca ab lb cb p _ w h.rowIn.2 h.rowIn.1 h.nil (.inl h1)
end Go.Proofs.Ytnpgjndhkmpciaa
