/-
  event.Read.
-/
import Derived.Test.YtebiogadkamgcaaNEvent2
import Derived.Test.YtebiogadkamgcaaNPut
import Derived.Test.YtebiogadkamgcaaVRead
import Derived.Test.YtebiogadkamgcaaBytes
namespace Go.Proofs.Ytebiogadkamgcaa
open Go.RowKit
/-- What Read returns. -/
def N.ReadIs (t : Int) (b : List Int) (w : World) (e : Ending) (w' : World) : Prop :=
  ∃ a' c' n', e = .returned (.tuple #[.slice a' n' c', .bool (N.read t b).isSome]) ∧ Hid (((N.read t b).getD []).length = n') ∧ Hid (VIn w' a' n' c' ((N.read t b).getD [])) ∧ Below w.heap.size w w'
theorem N.ReadIs.no {t : Int} {b : List Int} {w w' : World} (h : N.read t b = none) (hb : Below w.heap.size w w') : N.ReadIs t b w (.returned (.tuple #[.slice none 0 0, .bool false])) w' :=
  ⟨none, 0, 0, by rw [h]; rfl, Lib.hid (by rw [h]; rfl), Lib.hid (by rw [h]; exact VIn.nil _), hb⟩
theorem N.ReadIs.yes {t : Int} {b : List Int} {l : List Y.Ev} {a : Option Addr} {n c : Nat} {w w' : World} (h : N.read t b = some l) (hv : VIn w' a n c l) (hb : Below w.heap.size w w') : N.ReadIs t b w (.returned (.tuple #[.slice a n c, .bool true])) w' :=
  ⟨a, c, n, by rw [h]; rfl, Lib.hid (by rw [h]; exact hv.1), Lib.hid (by rw [h]; exact hv), hb⟩
theorem N.one_part {t0 t : Int} {L left : List Int} {out : List Y.Ev} (h : N.Part t0 L out t left) (h0 : left ≠ []) : N.Part t0 L (out ++ [(N.one t left).1]) (N.one t left).1.t (N.one t left).2 :=
  h.step h0 fun f y _ hf hl he => by rw [he, N.one_step hf hl]; exact ⟨rfl, rfl⟩
theorem N.one_mem (t : Int) (L : List Int) : ∀ x ∈ (N.one t L).2, x ∈ L := by
  intro x hx
  have ht : ∀ l : List Int, ∀ x ∈ l.tail, x ∈ l := fun l x h => List.mem_of_mem_tail h
  unfold N.one N.body at hx
  simp only at hx
  repeat' split at hx
  all_goals (repeat' (first | assumption | (apply ht; assumption) | apply ht))
set_option maxRecDepth 100000 in
set_option maxHeartbeats 600000 in
theorem evRead_any (t : Int) (a : Option Addr) (n c : Nat) (b : List Int) (w : World) (hl : b.length = n) (h : RowIn .u8 w a c b) :
    Calls Try.prog 13 #[.int .i64 t, .slice a n c] w (N.ReadIs t b w) := by
  have HL := Lib.hid hl
  have HR := Lib.hid h
  clear hl h
  go_enter Try.func13, Try.ntmps13
  go_wp2_with fail
  refine (readRow_any a n c b w HL.out HR.out).mono ?_
  rintro e w2 ⟨a2, c2, n2, rfl, h1, h2, hb⟩
  have HB2 := Lib.hid hb
  clear hb
  cases hm : M.read b with
  | none =>
    have HE := Lib.hid (N.read_no (t := t) hm)
    simp only [Option.isSome_none]
    clear hm
    go_wp2_with fail
    go_ret2
    exact .no HE.out HB2.out
  | some L =>
  rw [hm] at h1 h2
  simp only [Option.getD_some] at h1 h2
  have HM := Lib.hid hm
  have HI := Lib.hid (all_some.1 (read_some.1 hm)).2.1
  have hL4 := (all_some.1 (read_some.1 hm)).1
  have e1 := h1.out
  subst e1
  simp only [Option.isSome_some]
  obtain ⟨w3, hw3, hb, hk⟩ := Zn w2 47 #[.slice a2 L.length c2]
  have e3 : w3.heap.size = w2.heap.size + 1 := by rw [← hw3]; simp
  have HB3 := Zt HB2 hb
  obtain ⟨r, hr0, hr1⟩ : ∃ r, N.Left w3 w2.heap.size r L ∧ (L = [] ∨ r < w3.heap.size) := by
    rcases h2.out.2.2 with h0 | ⟨g, off, h0, hlt, -⟩
    · exact ⟨w2.heap.size + 1, ⟨by omega, a2, c2, hk, h2.out.below hb, .inl h0⟩, .inl h0⟩
    · exact ⟨g, ⟨by omega, a2, c2, hk, h2.out.below hb, .inr (fun q hq => by rw [h0] at hq; cases hq; rfl)⟩, .inr (by omega)⟩
  have HL0 := Lib.hid hr0
  have HL1 := Lib.hid hr1
  clear hb hk hr0 hr1 h1 h2 hm
  go_wp2_with fail
  go_loopw [8, 9] (fun v t1 wr => ∃ (out : List Y.Ev) (u : Int) (left : List Int) (a1 : Option Addr) (c1 : Nat), v = .slice a1 out.length c1 ∧ t1 = .int .i64 u ∧ Hid (N.Part t L out u left) ∧ Hid (N.Left wr w2.heap.size r left) ∧ out.length + left.length ≤ 400 ∧ Hid (∀ x ∈ left, M.isn x) ∧ Hid (left = [] ∨ r < w3.heap.size) ∧ Hid (wr.ownsRow w3.heap.size 34 9 (.slice a1 out.length c1) out.length (V.flat out)) ∧ Hid (Below w.heap.size w wr) ∧ w3.heap.size ≤ wr.heap.size) (fun _ _ wr => N.many wr w2.heap.size)
  case atStart => exact ⟨[], t, L, none, 0, rfl, rfl, Lib.hid (N.Part.start t L), HL0, by simpa using hL4, HI, HL1, Lib.hid (World.ownsRow_nil _ _ _ _), HB3, Nat.le_refl _⟩
  case round =>
    obtain ⟨out, u, left, a1, c1, rfl, rfl, HP, HLf, hlen, HIs, HRr, HO, HB, hsz⟩ := hrel
    have hmany := HLf.out.many
    obtain ⟨hrg, al, cl, hk, hrow, -⟩ := id HLf.out
    have p0 := Zv hk 0 (.slice al left.length cl)
    clear hk hrow
    cases left with
    | nil =>
      have HE := Lib.hid (HP.out.fin HM.out)
      obtain ⟨a3, c3, hv, hvi⟩ := own_vrec HO.out rfl
      injection hv with hv1 hv2 hv3
      subst hv1 hv3
      have HV := Lib.hid hvi
      have HRw := Lib.hid (HR.out.below HB.out)
      clear hvi
      go_wp2_with fail
      refine (evPut_any t a1 out.length c1 out wr HV.out (by simp at hlen; omega)).mono ?_
      rintro e w4 ⟨a4, c4, n4, rfl, h1, h2, hb⟩
      have HB4 := Zt HB hb
      have HV4 := Lib.hid (HV.out.below hb)
      have HR4 := Lib.hid (HRw.out.below hb)
      clear hb
      cases hp : N.put t out with
      | none =>
        have HN : Hid (N.read t b = none) := Lib.hid (by rw [HE.out, hp]; rfl)
        simp only [Option.isSome_none]
        clear hp h1 h2
        go_wp2_with fail
        go_ret2
        exact .no HN.out HB4.out
      | some q =>
        rw [hp] at h1 h2
        simp only [Option.getD_some] at h1 h2
        simp only [Option.isSome_some]
        obtain ⟨eq, heq⟩ : ∃ z, decide (q = b) = z := ⟨_, rfl⟩
        have HQ := Lib.hid heq
        have HPq := Lib.hid hp
        clear hp
        go_wp2_with fail
        refine (equal_any a4 a n4 n c4 c q b w4 h1.out HL.out h2.out HR4.out).mono ?_
        rintro e w5 ⟨rfl, hb⟩
        have HB5 := Zt HB4 hb
        have HV5 := Lib.hid (HV4.out.below hb)
        rw [HQ.out]
        clear hb
        cases eq with
        | true =>
          have HN : Hid (N.read t b = some out) := Lib.hid (by rw [HE.out, HPq.out, of_decide_eq_true heq, if_pos rfl])
          clear heq
          go_wp2_with fail
          go_ret2
          exact .yes HN.out HV5.out HB5.out
        | false =>
          have HN : Hid (N.read t b = none) := Lib.hid (by rw [HE.out, HPq.out, if_neg (fun h => of_decide_eq_false heq (Option.some.inj h))])
          clear heq
          go_wp2_with fail
          go_ret2
          exact .no HN.out HB5.out
    | cons x left =>
      have hrlt : r < w3.heap.size := HRr.out.resolve_left (by simp)
      go_wp2_with fail
      refine (rdEvent_any w2.heap.size r (x :: left) u wr HLf.out (by omega) HIs.out (by omega) (by omega)).mono ?_
      rintro e w4 ⟨rfl, hl4, hg4⟩
      have HP4 := Lib.hid (N.one_part HP.out (by simp))
      have HI4 : Hid (∀ y ∈ (N.one u (x :: left)).2, M.isn y) := Lib.hid (fun y hy => HIs.out y (N.one_mem u _ y hy))
      have hls := N.one_less u (x :: left) (by simp)
      obtain ⟨ev, hev⟩ : ∃ z, (N.one u (x :: left)).1 = z := ⟨_, rfl⟩
      obtain ⟨lf, hlf⟩ : ∃ z, (N.one u (x :: left)).2 = z := ⟨_, rfl⟩
      rw [hev, hlf] at HP4
      rw [hlf] at HI4 hls hl4
      rw [hev]
      clear hev hlf
      have HL4 := Lib.hid hl4
      have HO4 := Lib.hid (HO.out.kept hg4 (.inr fun e => by have := (HO.out.lt _ e).1; omega))
      have HB4 := Lib.hid (HB.out.grown hg4 HB.out.size fun k ek => by cases ek; exact HB2.out.size)
      have sz4 := hg4.size
      clear hl4 hg4 p0
      obtain ⟨k0, k1, k2, k3, k4, ⟨k5, k6, k7, k8⟩⟩ := ev
      obtain ⟨w5, hw5, hb, hk⟩ := Zn w4 34 #[.int .i64 k0, .int .i64 k1, .int .i64 k2, .int .i64 k3, .int .i64 k4, .int .i64 k5, .int .i64 k6, .int .i64 k7, .bool k8]
      have HB5 := Zt HB4 hb
      have HO5 := Lib.hid (ownsRow_below HO4.out hb)
      have HL5 := Lib.hid (HL4.out.below hb)
      have KE5 := Lib.hid hk
      have e5 : w5.heap.size = w4.heap.size + 1 := by rw [← hw5]; simp
      clear hb hk
      obtain ⟨w6, hw6, hb, hk⟩ := Zn w5 34 #[.int .i64 k0, .int .i64 k1, .int .i64 k2, .int .i64 k3, .int .i64 k4, .int .i64 k5, .int .i64 k6, .int .i64 k7, .bool k8]
      have HB6 := Zt HB5 hb
      have HO6 := Lib.hid (ownsRow_below HO5.out hb)
      have HL6 := Lib.hid (HL5.out.below hb)
      have KE6 := Zk KE5 hb
      have KX6 : Hid (V.Bx w6 w5.heap.size 34 (⟨k0, k1, k2, k3, k4, ⟨k5, k6, k7, k8⟩⟩ : Y.Ev)) := Lib.hid hk
      have e6 : w6.heap.size = w4.heap.size + 2 := by rw [← hw6]; simp [e5]
      clear hb hk
      have v0 := Zv KE5.out 0 (.int .i64 k0)
      have v1 := Zv KE5.out 1 (.int .i64 k1)
      have v2 := Zv KE5.out 2 (.int .i64 k2)
      have v3 := Zv KE5.out 3 (.int .i64 k3)
      have v4 := Zv KE5.out 4 (.int .i64 k4)
      have v5 := Zv KE5.out 5 (.int .i64 k5)
      have v6 := Zv KE5.out 6 (.int .i64 k6)
      have v7 := Zv KE5.out 7 (.int .i64 k7)
      have v8 := Zv KE5.out 8 (.bool k8)
      unfold N.ecs
      simp only [List.length_cons] at hls hlen
      go_wp2_with (at_builtin; refine wpList_appendV (α := Y.Ev) rfl (.tmp 29) (.tmp 31) 22 34 rfl (.agg #[.int .i64 0, .int .i64 0, .int .i64 0, .int .i64 0, .int .i64 0, .int .i64 0, .int .i64 0, .int .i64 0, .bool false]) 72 Try.underlying22 event_parts rfl (by decide) w3.heap.size (.slice a1 out.length c1) out.length out ⟨k0, k1, k2, k3, k4, ⟨k5, k6, k7, k8⟩⟩ (by simp [Act.eval]) HO6.out w5.heap.size 34 (by simp [Act.eval]) KX6.out (by omega) (by omega) ?_; intro g7 cap7 w7 ho7 hg7 hn7 hlt7; have HO7 := Lib.hid ho7; have KE7 := Lib.hid (KE6.out.grown hg7 (fun e => by have e' := HO.out.lt _ e.symm; have := HO4.out.lt _ e.symm; omega)); have HL7 := Lib.hid (HL6.out.grown hg7 (fun e => by have := (HO.out.lt _ e.symm).1; omega) (fun e => by have := (HO.out.lt _ e.symm).1; omega)); have HB7 := Lib.hid (HB6.out.grown hg7 HB6.out.size fun k ek => by have := (HO.out.lt _ ek).1; have := HB3.out.size; omega); have sz7 := hg7.size; clear ho7 hg7 hn7; have u1 := Zv KE7.out 1 (.int .i64 k1))
      go_roundw
      case rel => exact ⟨out ++ [⟨k0, k1, k2, k3, k4, ⟨k5, k6, k7, k8⟩⟩], k1, lf, some ⟨g7, 0, none⟩, cap7, by simp, rfl, HP4, HL7, by simp; omega, HI4, Lib.hid (.inr hrlt), Lib.hid (by have := HO7.out; rw [show V.Rec.k Y.Ev = 9 from rfl] at this; rw [List.length_append]; exact this), HB7, by omega⟩
      case measure => rw [hmany, HL7.out.many]; simp; omega
end Go.Proofs.Ytebiogadkamgcaa
