import Derived.Test.YtonejangijkdmaaGreatYA
import Derived.Test.YtonejangijkdmaaGreatSA
namespace Go.Proofs.YtonejangijkdmaaGreat
namespace Y
def Tk (had : List L.Ls) (i : Int) (j : Nat) (T : List W.Tm) : Prop := W.Asc T /\ T.length <= j /\ ∀ t, t ∈ T ↔ ∃ (k : Nat) (x : L.Ls), k < j /\ had[k]? = some x /\ t = ((k : Int), x.t + i) /\ x.t + i <= 1073741824
theorem Tk.nil (had : List L.Ls) (i : Int) : Tk had i 0 [] := ⟨List.Pairwise.nil, by simp, fun t => by simp⟩
theorem Tk.one {had : List L.Ls} {i : Int} {j : Nat} {T : List W.Tm} (h : Tk had i j T) {t u : W.Tm} (ht : t ∈ T) (hu : u ∈ T) (e : t.1 = u.1) : t = u := by
 obtain ⟨k, x, _, hx, rfl, _⟩ := (h.2.2 t).1 ht
 obtain ⟨m, y, _, hy, rfl, _⟩ := (h.2.2 u).1 hu
 have : k = m := by simp only at e; omega
 subst this
 rw [hx] at hy; cases hy; rfl
theorem Tk.may {had : List L.Ls} {i now : Int} {j : Nat} {T : List W.Tm} (h : Tk had i j T) (h0 : 0 <= now /\ now <= 1073741824) (hj : j <= 64) (hl : ∀ x ∈ had, now < x.t + i) : W.May now T := by
 refine ⟨h0.1, h0.2, by have := h.2.1; omega, fun t ht => ?_, h.1, ?_⟩
 ·obtain ⟨k, x, _, hx, rfl, hx2⟩ := (h.2.2 t).1 ht
  exact W.ok_iff.2 ⟨by simp, hl x (List.mem_of_getElem? hx), hx2⟩
 ·refine List.Pairwise.imp_of_mem (R := fun x y => W.lt x y = true) (fun {t u} ht hu hlt e => ?_) h.1
  have := h.one ht hu e
  subst this
  rw [W.lt_irrefl] at hlt; cases hlt
theorem Tk.add {had : List L.Ls} {i now : Int} {j : Nat} {T : List W.Tm} {x : L.Ls} (h : Tk had i j T) (h0 : 0 <= now /\ now <= 1073741824) (hj : j < 64) (hl : ∀ x ∈ had, now < x.t + i) (hx : had[j]? = some x) : Tk had i (j + 1) (W.add now T j (x.t + i)).1 := by
 have hm := h.may h0 (by omega) hl
 have hmay : W.may now T = true := W.may_iff.2 hm
 have hnow := hl x (List.mem_of_getElem? hx)
 have hlen := h.2.1
 have hno : ∀ t ∈ T, t.1 ≠ (j : Int) := fun t ht e => by
  obtain ⟨k, y, hk, _, rfl, _⟩ := (h.2.2 t).1 ht
  have : k = j := by simp only at e; omega
  omega
 unfold W.add
 rw [if_neg (by rw [hmay]; simp <;> omega)]
 by_cases hbig : 1073741824 < x.t + i
 ·rw [if_pos (.inr hbig)]
  refine ⟨h.1, by show T.length <= _; omega, fun t => ?_⟩
  show t ∈ T ↔ _
  rw [h.2.2 t]
  constructor
  ·rintro ⟨k, y, hk, r⟩; exact ⟨k, y, by omega, r⟩
  ·rintro ⟨k, y, hk, hy, e, hle⟩
   by_cases hkj : k = j
   ·subst hkj; rw [hx] at hy; cases hy; omega
   ·exact ⟨k, y, by omega, hy, e, hle⟩
 ·rw [if_neg (by omega), if_neg (by rw [W.has_iff]; rintro ⟨t, ht, e⟩; exact hno t ht e), if_neg (by omega)]
  refine ⟨W.ins_asc h.1 (fun t ht e => hno t ht (by rw [e])), ?_, fun t => ?_⟩
  ·show (W.ins _ T).length <= _
   rw [(W.ins_perm _ T).length_eq, List.length_cons]; omega
  ·show t ∈ W.ins _ T ↔ _
   rw [(W.ins_perm _ T).mem_iff, List.mem_cons, h.2.2 t]
   constructor
   ·rintro (rfl | ⟨k, y, hk, r⟩)
    ·exact ⟨j, x, by omega, hx, rfl, by omega⟩
    ·exact ⟨k, y, by omega, r⟩
   ·rintro ⟨k, y, hk, hy, e, hle⟩
    by_cases hkj : k = j
    ·subst hkj; rw [hx] at hy; cases hy; exact .inl e
    ·exact .inr ⟨k, y, by omega, hy, e, hle⟩
def who (had : List L.Ls) (t : W.Tm) : L.Ls := had.getD t.1.toNat ⟨0, 0, 0, 0, 0⟩
theorem who_at {had : List L.Ls} {i : Int} {j : Nat} {T : List W.Tm} (h : Tk had i j T) {t : W.Tm} (ht : t ∈ T) : ∃ (k : Nat) (x : L.Ls), had[k]? = some x /\ t = ((k : Int), x.t + i) /\ who had t = x /\ k < j := by
 obtain ⟨k, x, hk, hx, rfl, _⟩ := (h.2.2 t).1 ht
 exact ⟨k, x, hx, rfl, by unfold who; simp [hx], hk⟩
def gone (had : List L.Ls) (n : Int) (T : List W.Tm) : List L.Ls := (W.due n T).map (who had)
theorem gone_run {s : St} {n : Int} {T : List W.Tm} (hs : L.Srt s.l) (h : Tk s.l s.p.i s.l.length T) (hn : n <= 1073741824) :
  run n s.l.length s = (freeAll s.p.i (gone s.l n T) s, (gone s.l n T).map fun x => evF x (x.t + s.p.i)) := by
 have hd : ∀ t ∈ W.due n T, t ∈ T /\ t.2 <= n := fun t ht => by
  unfold W.due at ht
  have := List.mem_filter.1 ht
  exact ⟨this.1, of_decide_eq_true this.2⟩
 refine run_all hs (Nat.le_refl _) ?_ (fun x => ?_)
 ·unfold gone
  rw [List.pairwise_map]
  refine List.Pairwise.imp_of_mem (R := fun x y => W.lt x y = true) (fun {t u} ht hu hlt => ?_) (h.1.filter _)
  obtain ⟨k, x, hx, rfl, hw, _⟩ := who_at h (hd t ht).1
  obtain ⟨m, y, hy, rfl, hw2, _⟩ := who_at h (hd u hu).1
  rw [hw, hw2]
  have hlt' := W.lt_iff.1 hlt
  simp only at hlt'
  rcases hlt' with h1 | ⟨h1, h2⟩
  ·exact .inl (by omega)
  ·refine .inr ⟨by omega, ?_⟩
   obtain ⟨l1, e1⟩ := List.getElem?_eq_some_iff.1 hx
   obtain ⟨l2, e2⟩ := List.getElem?_eq_some_iff.1 hy
   have := List.pairwise_iff_getElem.1 hs k m l1 l2 (by omega)
   rw [e1, e2] at this
   exact this
 ·unfold gone
  rw [List.mem_map]
  constructor
  ·rintro ⟨t, ht, rfl⟩
   obtain ⟨h1, h2⟩ := hd t ht
   obtain ⟨k, x, hx, rfl, hw, _⟩ := who_at h h1
   rw [hw]
   exact ⟨List.mem_of_getElem? hx, h2⟩
  ·rintro ⟨hx, hxn⟩
   obtain ⟨k, hk, rfl⟩ := List.mem_iff_getElem.1 hx
   have hxk := List.getElem?_eq_getElem hk
   have hmem : ((k : Int), s.l[k].t + s.p.i) ∈ T := (h.2.2 _).2 ⟨k, _, hk, hxk, rfl, by omega⟩
   refine ⟨_, List.mem_filter.2 ⟨hmem, by simpa using hxn⟩, ?_⟩
   unfold who; simp [hxk]
theorem gone_len (had : List L.Ls) (n : Int) (T : List W.Tm) : (gone had n T).length = (W.due n T).length := by unfold gone; simp
theorem gone_at {had : List L.Ls} {i n : Int} {j k : Nat} {T : List W.Tm} (h : Tk had i j T) {t : W.Tm} (ht : (W.due n T)[k]? = some t) :
  ∃ (m : Nat) (x : L.Ls), had[m]? = some x /\ t = ((m : Int), x.t + i) /\ (gone had n T)[k]? = some x := by
 have hm := List.mem_of_getElem? ht
 unfold W.due at hm
 obtain ⟨m, x, hx, rfl, hw, _⟩ := who_at h (List.mem_filter.1 hm).1
 exact ⟨m, x, hx, rfl, by unfold gone; rw [List.getElem?_map, ht]; simp [hw]⟩
end Y
end Go.Proofs.YtonejangijkdmaaGreat
