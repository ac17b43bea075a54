/-
  The document's Read of events.
-/
import Derived.Test.YtebiogadkamgcaaNRefPut
import Derived.Test.YtebiogadkamgcaaNRefOne
import Derived.Test.YtebiogadkamgcaaNRead
import Derived.Test.YtebiogadkamgcaaVRefRead
namespace Go.Proofs.Ytebiogadkamgcaa
open Go.RowKit
def N.lenV (v : Value) : Nat := match v with | .slice _ n _ => n | _ => 0
set_option maxRecDepth 100000 in
set_option maxHeartbeats 600000 in
theorem refEvRead_any (t : Int) (a : Option Addr) (n c : Nat) (b : List Int) (w : World) (hl : b.length = n) (h : RowIn .u8 w a c b) (h5 : n ≤ 1000000) :
    Calls Try.prog 14 #[.int .i64 t, .slice a n c] w (N.ReadIs t b w) := by
  have HL := Lib.hid hl
  have HR := Lib.hid h
  clear hl h
  go_enter Try.func14, Try.ntmps14
  go_wp2_with fail
  refine (refReadRow_any a n c b w HL.out HR.out h5).mono ?_
  rintro e w2 ⟨a2, c2, n2, rfl, h1, h2, hb⟩
  have HB2 := Lib.hid hb
  clear hb
  cases hm : M.read b with
  | none =>
    have HE := Lib.hid (N.read_no (t := t) hm)
    simp only [Option.isSome_none]
    clear hm
    go_wp2_with fail
    go_ret2
    exact .no HE.out HB2.out
  | some L =>
  rw [hm] at h1 h2
  simp only [Option.getD_some] at h1 h2
  by_cases hK : N.tick t
  case neg =>
    have HE := Lib.hid (N.read_tick (b := b) hK)
    simp only [Option.isSome_some]
    unfold N.tick at hK
    clear hm
    by_cases h0 : t < 0
    · have d1 : decide (t < 0) = true := decide_eq_true h0
      go_wp2_with fail
      go_ret2
      exact .no HE.out HB2.out
    · have d1 : decide (t < 0) = false := decide_eq_false h0
      have d2 : decide (1073741824 < t) = true := decide_eq_true (by omega)
      go_wp2_with fail
      go_ret2
      exact .no HE.out HB2.out
  case pos =>
  have HK := Lib.hid hK
  unfold N.tick at hK
  have d1 : decide (t < 0) = false := by simp; omega
  have d2 : decide (1073741824 < t) = false := by simp; omega
  have HM := Lib.hid hm
  have HI := Lib.hid (all_some.1 (read_some.1 hm)).2.1
  have hL4 := (all_some.1 (read_some.1 hm)).1
  have e1 := h1.out
  subst e1
  simp only [Option.isSome_some]
  have HW := h2
  clear h1 h2 hm hK
  go_wp2_with fail
  go_loopw [6, 8, 9] (fun l1 v t1 wr => ∃ (out : List Y.Ev) (u : Int) (left : List Int) (al a1 : Option Addr) (cl c1 : Nat), l1 = .slice al left.length cl ∧ v = .slice a1 out.length c1 ∧ t1 = .int .i64 u ∧ Hid (N.Part t L out u left) ∧ Hid (RowIn .i64 w2 al cl left) ∧ out.length + left.length ≤ 400 ∧ Hid (∀ x ∈ left, M.isn x) ∧ Hid (wr.ownsRow w2.heap.size 34 9 (.slice a1 out.length c1) out.length (V.flat out)) ∧ Hid (Below w2.heap.size w2 wr)) (fun l1 _ _ _ => N.lenV l1)
  case atStart => exact ⟨[], t, L, a2, none, c2, 0, rfl, rfl, rfl, Lib.hid (N.Part.start t L), HW, by simpa using hL4, HI, Lib.hid (World.ownsRow_nil _ _ _ _), Lib.hid (Below.refl _ _)⟩
  case round =>
    obtain ⟨out, u, left, al, a1, cl, c1, rfl, rfl, rfl, HP, HRl, hlen, HIs, HO, HX⟩ := hrel
    have HB : Hid (Below w.heap.size w wr) := Zt HB2 HX.out
    have hsz := HX.out.size
    by_cases h0 : left = []
    · subst h0
      have HE := Lib.hid (HP.out.fin HM.out)
      obtain ⟨a3, c3, hv, hvi⟩ := own_vrec HO.out rfl
      injection hv with hv1 hv2 hv3
      subst hv1 hv3
      have HV := Lib.hid hvi
      clear hvi
      simp only [List.length_nil]
      go_wp2_with fail
      refine (refEvPut_any t a1 out.length c1 out wr HV.out (by simp at hlen; omega)).mono ?_
      rintro e w4 ⟨a4, c4, n4, rfl, h1, h2, hb⟩
      have HB4 := Zt HB hb
      have HV4 := Lib.hid (HV.out.below hb)
      clear hb
      cases hp : N.put t out with
      | none =>
        have HN : Hid (N.read t b = none) := Lib.hid (by rw [HE.out, hp]; rfl)
        simp only [Option.isSome_none]
        clear hp h1 h2
        go_wp2_with fail
        go_ret2
        exact .no HN.out HB4.out
      | some q =>
        rw [hp] at h1 h2
        simp only [Option.getD_some] at h1 h2
        simp only [Option.isSome_some]
        have s1 := conv_row h2.out h1.out
        have s2 := conv_row (HR.out.below HB4.out) HL.out
        have hbe := str_beq h2.out.2.1 HR.out.2.1
        obtain ⟨sp, hsp⟩ : ∃ z, strOf q = z := ⟨_, rfl⟩
        obtain ⟨sb, hsb⟩ : ∃ z, strOf b = z := ⟨_, rfl⟩
        obtain ⟨eq, heq⟩ : ∃ z, decide (q = b) = z := ⟨_, rfl⟩
        rw [hsp] at s1 hbe
        rw [hsb] at s2 hbe
        rw [heq] at hbe
        have hne : (sp.toList != sb.toList) = !eq := by rw [bne, hbe]
        have HPq := Lib.hid hp
        have HQ := Lib.hid heq
        clear hp hsp hsb heq h1 h2
        cases eq with
        | true =>
          have HN : Hid (N.read t b = some out) := Lib.hid (by rw [HE.out, HPq.out, of_decide_eq_true HQ.out, if_pos rfl])
          go_wp2_with fail
          go_ret2
          exact .yes HN.out HV4.out HB4.out
        | false =>
          have HN : Hid (N.read t b = none) := Lib.hid (by rw [HE.out, HPq.out, if_neg (fun h => of_decide_eq_false HQ.out (Option.some.inj h))])
          go_wp2_with fail
          go_ret2
          exact .no HN.out HB4.out
    · have hpos : 0 < left.length := List.length_pos_iff.2 h0
      have dl : decide (0 < (left.length : Int)) = true := by simp; omega
      have H0 := Lib.hid h0
      go_wp2_with fail
      refine (refOne_any al cl u left wr (HRl.out.below HX.out) H0.out (by omega) HIs.out).mono ?_
      rintro e w4 ⟨⟨k0, k1, k2, k3, k4, ⟨k5, k6, k7, k8⟩⟩, m, rfl, ho, hb⟩
      have HOn := Lib.hid ho
      have HX4 : Hid (Below w2.heap.size w2 w4) := Zt HX hb
      have HB4 := Zt HB hb
      have HO4 := Lib.hid (ownsRow_below HO.out hb)
      have sz4 := hb.size
      clear ho hb h0
      obtain ⟨w5, hw5, hb, hk⟩ := Zn w4 34 #[.int .i64 k0, .int .i64 k1, .int .i64 k2, .int .i64 k3, .int .i64 k4, .int .i64 k5, .int .i64 k6, .int .i64 k7, .bool k8]
      have HX5 := Zt HX4 hb
      have HB5 := Zt HB4 hb
      have HO5 := Lib.hid (ownsRow_below HO4.out hb)
      have KE5 := Lib.hid hk
      have e5 : w5.heap.size = w4.heap.size + 1 := by rw [← hw5]; simp
      clear hb hk
      unfold N.ecs
      by_cases hm0 : m = 0
      · subst hm0
        have HE : Hid (N.read t b = none) := Lib.hid (HP.out.bad HM.out fun y _ hy he => by
          cases y with
          | nil => exact H0.out he.symm
          | cons g y => exact HOn.out.1 rfl g y hy.1 hy.2.1 he.symm)
        go_wp2_with fail
        go_ret2
        exact .no HE.out HB5.out
      · have dm : (((m : Nat) : Int) == 0) = false := by simp; omega
        obtain ⟨hml, hon⟩ := HOn.out.2 hm0
        have HP4 : Hid (N.Part t L (out ++ [⟨k0, k1, k2, k3, k4, ⟨k5, k6, k7, k8⟩⟩]) k1 (left.drop m)) := Lib.hid (HP.out.step H0.out fun g y _ hg hl he => by
          obtain ⟨h1, h2⟩ := hon g y hg hl he
          subst h1
          exact ⟨rfl, h2⟩)
        have HI4 : Hid (∀ y ∈ left.drop m, M.isn y) := Lib.hid fun y hy => HIs.out y (List.mem_of_mem_drop hy)
        have hcap := HRl.out.1
        have HR4 : Hid (RowIn .i64 w2 (slk 1 al m cl) (cl - m) (left.drop m)) := Lib.hid (by
          have := row_sliced HRl.out (l := m) (h := left.length) (m := cl) hml (Nat.le_refl _) hcap.1 hcap.2
          rw [List.take_length] at this
          rw [sl_slk]
          exact this)
        have hs : ∀ w, (Instr.sliceAt 40 (.slice al left.length cl) (some (.int .i64 (m : Int))) none none).run Try.prog w = .ok (.slice (slk 1 al m cl) (left.length - m) (cl - m)) w := fun w => slice_l (a := al) (len := left.length) (cap := cl) (k := 1) Try.underlying40 (fun _ => rfl) w (q := m) hml
        clear hon
        obtain ⟨w6, hw6, hb, hk⟩ := Zn w5 34 #[.int .i64 k0, .int .i64 k1, .int .i64 k2, .int .i64 k3, .int .i64 k4, .int .i64 k5, .int .i64 k6, .int .i64 k7, .bool k8]
        have HX6 := Zt HX5 hb
        have HB6 := Zt HB5 hb
        have HO6 := Lib.hid (ownsRow_below HO5.out hb)
        have KE6 := Zk KE5 hb
        have KX6 : Hid (V.Bx w6 w5.heap.size 34 (⟨k0, k1, k2, k3, k4, ⟨k5, k6, k7, k8⟩⟩ : Y.Ev)) := Lib.hid hk
        have e6 : w6.heap.size = w4.heap.size + 2 := by rw [← hw6]; simp [e5]
        clear hb hk
        have v0 := Zv KE5.out 0 (.int .i64 k0)
        have v1 := Zv KE5.out 1 (.int .i64 k1)
        have v2 := Zv KE5.out 2 (.int .i64 k2)
        have v3 := Zv KE5.out 3 (.int .i64 k3)
        have v4 := Zv KE5.out 4 (.int .i64 k4)
        have v5 := Zv KE5.out 5 (.int .i64 k5)
        have v6 := Zv KE5.out 6 (.int .i64 k6)
        have v7 := Zv KE5.out 7 (.int .i64 k7)
        have v8 := Zv KE5.out 8 (.bool k8)
        go_wp2_with (at_builtin; refine wpList_appendV (α := Y.Ev) rfl (.tmp 41) (.tmp 43) 22 34 rfl (.agg #[.int .i64 0, .int .i64 0, .int .i64 0, .int .i64 0, .int .i64 0, .int .i64 0, .int .i64 0, .int .i64 0, .bool false]) 72 Try.underlying22 event_parts rfl (by decide) w2.heap.size (.slice a1 out.length c1) out.length out ⟨k0, k1, k2, k3, k4, ⟨k5, k6, k7, k8⟩⟩ (by simp [Act.eval]) HO6.out w5.heap.size 34 (by simp [Act.eval]) KX6.out (by omega) (by omega) ?_; intro g7 cap7 w7 ho7 hg7 hn7 hlt7; have HO7 := Lib.hid ho7; have KE7 := Lib.hid (KE6.out.grown hg7 (fun e => by have e' := (HO.out.lt _ e.symm).2; omega)); have HX7 := Lib.hid (HX6.out.grown hg7 HX6.out.size fun k ek => (HO.out.lt _ ek).1); clear ho7 hg7 hn7; have u1 := Zv KE7.out 1 (.int .i64 k1))
        go_roundw
        case rel => exact ⟨out ++ [⟨k0, k1, k2, k3, k4, ⟨k5, k6, k7, k8⟩⟩], k1, left.drop m, slk 1 al m cl, some ⟨g7, 0, none⟩, cl - m, cap7, by simp, by simp, rfl, HP4, HR4, by simp; omega, HI4, Lib.hid (by have := HO7.out; rw [show V.Rec.k Y.Ev = 9 from rfl] at this; rw [List.length_append]; exact this), HX7⟩
        case measure => simp [N.lenV]; omega
end Go.Proofs.Ytebiogadkamgcaa
