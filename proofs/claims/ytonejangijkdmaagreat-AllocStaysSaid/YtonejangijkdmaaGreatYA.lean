import Derived.Test.YtonejangijkdmaaGreatBQ
import Derived.Test.YtonejangijkdmaaGreatOD
namespace Go.Proofs.YtonejangijkdmaaGreat
namespace Y
structure Po where
 q : Int
 i : Int
 h : Int
 pair : Bool
deriving DecidableEq
structure St where
 d : E.D
 p : Po
 now : Int
 ps : List O.Pl
 l : List L.Ls
 h : List L.T3
structure Ev where
 k : Int
 t : Int
 a : Int
 b : Int
 c : Int
 p : Po
deriving DecidableEq
structure Rq where
 k : Int
 s : Int
 a : Int
 b : Int
 n : Int
 p : Po
def zp : Po := ⟨0, 0, 0, false⟩
def MayP (p : Po) : Prop := 1 <= p.q /\ p.q <= 8 /\ 1 <= p.i /\ p.i <= 1048576 /\ 0 <= p.h /\ p.h <= 1048576
instance (p : Po) : Decidable (MayP p) := by unfold MayP; exact inferInstance
def LtH (x y : L.T3) : Prop := x.a < y.a \/ x.a = y.a /\ x.b < y.b
instance (x y : L.T3) : Decidable (LtH x y) := by unfold LtH; exact inferInstance
def SrtH (h : List L.T3) : Prop := h.Pairwise LtH
instance (h : List L.T3) : Decidable (SrtH h) := by unfold SrtH; exact inferInstance
def cnt (l : List L.Ls) (s : Int) : Nat := (l.filter fun x => x.s == s).length
def okL (s : St) (x : L.Ls) : Prop :=
 E.baseB s.d x.s = true /\ E.blkB s.d x.a x.b = true /\ 0 <= O.of s.ps x.a /\ (s.p.pair = true -> E.baseA s.d x.s = x.a) /\ 0 <= x.f /\ x.f <= x.t /\ x.t <= s.now /\ s.now < x.t + s.p.i /\ (cnt s.l x.s : Int) <= s.p.q
instance (s : St) (x : L.Ls) : Decidable (okL s x) := by unfold okL; exact inferInstance
def okH (s : St) (y : L.T3) : Prop := E.blkB s.d y.a y.b = true /\ s.now < y.x /\ y.x <= s.now + 1048576 /\ ∀ x ∈ s.l, ¬ (x.a = y.a /\ x.b = y.b)
instance (s : St) (y : L.T3) : Decidable (okH s y) := by unfold okH; exact inferInstance
def May (s : St) : Prop := E.fit s.d = true /\ MayP s.p /\ O.May s.ps (E.no s.d) /\ (0 <= s.now /\ s.now <= 1073741824) /\ s.l.length <= 32 /\ L.Srt s.l /\ (∀ x ∈ s.l, okL s x) /\ SrtH s.h /\ ∀ y ∈ s.h, okH s y
instance (s : St) : Decidable (May s) := by unfold May; exact inferInstance
def blks (s : St) : Int := U.newN (E.nb s.d)
def map (s : St) (x : Int) : Int := L.uses (blks s) x (L.uses (blks s) x 0 (s.l.map L.had)) s.h
def block (s : St) (x : Int) : Int := if O.gives s.ps x then U.first (blks s) (map s x) else -1
def least (s : St) : Int := if 0 <= block s 0 then 0 else if 0 <= block s 1 then 1 else if 0 <= block s 2 then 2 else if 0 <= block s 3 then 3 else 4
abbrev An := St × List Ev × Int × Int × Int
def err (s : St) (e : Int) : An := (s, [], e, 0, 0)
def give (s : St) (sub x : Int) : An :=
 if block s x < 0 then err s 7
 else ({ s with l := (L.put s.l ⟨sub, x, block s x, s.now, s.now⟩).1 }, [⟨0, s.now, sub, x, block s x, zp⟩], 0, x, block s x)
def grant (s : St) (sub : Int) : An :=
 if E.baseB s.d sub = false then err s 5
 else if s.p.q <= cnt s.l sub then err s 6
 else if s.p.pair = true then
  if O.of s.ps (E.baseA s.d sub) < 0 then err s 7
  else if O.gives s.ps (E.baseA s.d sub) = false then err s 8
  else give s sub (E.baseA s.d sub)
 else give s sub (least s)
def free1 (s : St) (x : L.Ls) (t : Int) : St := { s with l := (L.del s.l x.a x.b).1, h := if 0 < s.p.h then L.hold s.h ⟨x.a, x.b, t + s.p.h⟩ else s.h }
def evF (x : L.Ls) (t : Int) : Ev := ⟨1, t, x.s, x.a, x.b, zp⟩
def get (s : St) (a b : Int) : Option L.Ls := s.l.find? fun x => x.a == a && x.b == b
def refresh (s : St) (sub a b : Int) : An := match get s a b with
 | some x => if x.s = sub then ({ s with l := s.l.map fun y => if y.a = a /\ y.b = b then { y with t := s.now } else y }, [], 0, a, b) else err s 5
 | none => err s 5
def release (s : St) (sub a b : Int) : An := match get s a b with
 | some x => if x.s = sub then (free1 s x s.now, [evF x s.now], 0, a, b) else err s 5
 | none => err s 5
def due (i n : Int) : List L.Ls -> Option L.Ls
 | [] => none
 | x :: l => match due i n l with
  | none => if x.t + i <= n then some x else none
  | some y => if x.t + i <= n /\ x.t <= y.t then some x else some y
def run (n : Int) : Nat -> St -> St × List Ev
 | 0, s => (s, [])
 | f + 1, s => match due s.p.i n s.l with
  | none => (s, [])
  | some x => ((run n f (free1 s x (x.t + s.p.i))).1, evF x (x.t + s.p.i) :: (run n f (free1 s x (x.t + s.p.i))).2)
def tick (s : St) (n : Int) : An :=
 if n < s.now \/ 1073741824 < n then err s 10
 else ({ (run n s.l.length s).1 with now := n, h := L.clean (run n s.l.length s).1.h n }, (run n s.l.length s).2, 0, (run n s.l.length s).2.length, 0)
def ofPools (s : St) (r : List O.Pl × Int) (e : Ev) : An := if r.2 = 0 then ({ s with ps := r.1 }, [e], 0, 0, 0) else err s r.2
def policy (s : St) (p : Po) : An :=
 if ¬ MayP p then err s 1 else if ¬ May { s with p := p } then err s 12 else ({ s with p := p }, [⟨6, s.now, 0, 0, 0, p⟩], 0, 0, 0)
def step (s : St) (r : Rq) : An :=
 if ¬ May s \/ r.k < 0 \/ 9 <= r.k then err s 1
 else if r.k = 0 then grant s r.s
 else if r.k = 1 then refresh s r.s r.a r.b
 else if r.k = 2 then release s r.s r.a r.b
 else if r.k = 3 then tick s r.n
 else if r.k = 4 then ofPools s (O.add s.ps (E.no s.d) r.a r.n) ⟨2, s.now, r.a, r.n, 0, zp⟩
 else if r.k = 5 then ofPools s (O.drain s.ps (E.no s.d) r.n) ⟨3, s.now, r.n, 0, 0, zp⟩
 else if r.k = 6 then ofPools s (O.size s.ps (E.no s.d) r.a r.n (L.busy s.l)) ⟨4, s.now, r.a, r.n, 0, zp⟩
 else if r.k = 7 then ofPools s (O.gone s.ps (E.no s.d) r.n (L.busy s.l)) ⟨5, s.now, r.n, 0, 0, zp⟩
 else policy s r.p
theorem blk_one {l : List L.Ls} (h : L.Srt l) {x y : L.Ls} (hx : x ∈ l) (hy : y ∈ l) (ha : x.a = y.a) (hb : x.b = y.b) : x = y := by
 obtain ⟨i, hi, rfl⟩ := List.mem_iff_getElem.1 hx
 obtain ⟨j, hj, rfl⟩ := List.mem_iff_getElem.1 hy
 by_cases hij : i < j
 ·have := List.pairwise_iff_getElem.1 h i j hi hj hij; unfold L.Lt at this; omega
 ·by_cases hji : j < i
  ·have := List.pairwise_iff_getElem.1 h j i hj hi hji; unfold L.Lt at this; omega
  ·have : i = j := by omega
   subst this; rfl
theorem del_mem {l : List L.Ls} (h : L.Srt l) {x y : L.Ls} (hx : x ∈ l) : y ∈ (L.del l x.a x.b).1 ↔ y ∈ l /\ y ≠ x := by
 rcases L.find_cases l x.a x.b with ⟨_, h2⟩ | ⟨i, z, hf, hi, ha, hb, h2⟩
 ·exact absurd ⟨rfl, rfl⟩ (h2 x hx)
 ·obtain rfl : z = x := blk_one h (List.mem_of_getElem? hi) hx ha hb
  obtain ⟨hil, hie⟩ := List.getElem?_eq_some_iff.1 hi
  have hd : (L.del l z.a z.b).1 = l.take i ++ l.drop (i + 1) := by unfold L.del; rw [hf, if_neg (by omega), Int.toNat_natCast]
  rw [hd, List.mem_append]
  constructor
  ·rintro (h3 | h3)
   ·refine ⟨List.mem_of_mem_take h3, fun e => ?_⟩
    subst e
    exact h2 y h3 ⟨rfl, rfl⟩
   ·refine ⟨List.mem_of_mem_drop h3, fun e => ?_⟩
    subst e
    obtain ⟨j, hj, e2⟩ := List.mem_drop_iff_getElem.1 h3
    have := List.pairwise_iff_getElem.1 h i (i + 1 + j) hil (by omega) (by omega)
    rw [hie, e2] at this
    unfold L.Lt at this; omega
  ·rintro ⟨h3, h4⟩
   obtain ⟨j, hj, rfl⟩ := List.mem_iff_getElem.1 h3
   by_cases hji : j < i
   ·exact .inl (List.mem_take_iff_getElem.2 ⟨j, by omega, rfl⟩)
   ·by_cases hj2 : j = i
    ·subst hj2; exact absurd hie h4
    ·exact .inr (List.mem_drop_iff_getElem.2 ⟨j - (i + 1), by omega, by congr 1; omega⟩)
theorem del_srt {l : List L.Ls} (h : L.Srt l) (a b : Int) : L.Srt (L.del l a b).1 := L.del_srt h
theorem del_is {l : List L.Ls} {x : L.Ls} (hx : x ∈ l) : (L.del l x.a x.b).2 = true := by
 unfold L.del
 rw [if_neg]
 intro h
 exact L.find_none.1 h x hx ⟨rfl, rfl⟩
theorem srtH_ext : ∀ {l k : List L.T3}, SrtH l -> SrtH k -> (∀ y, y ∈ l ↔ y ∈ k) -> l = k
 | [], [], _, _, _ => rfl
 | [], y :: k, _, _, h => absurd ((h y).2 (by simp)) (by simp)
 | x :: l, [], _, _, h => absurd ((h x).1 (by simp)) (by simp)
 | x :: l, y :: k, hl, hk, h => by
  obtain ⟨hx, hl'⟩ := List.pairwise_cons.1 hl
  obtain ⟨hy, hk'⟩ := List.pairwise_cons.1 hk
  have nt : ∀ {a b : L.T3}, LtH a b -> LtH b a -> False := fun h1 h2 => by unfold LtH at *; omega
  have e : x = y := by
   rcases List.mem_cons.1 ((h x).1 (by simp)) with e | e
   ·exact e
   ·rcases List.mem_cons.1 ((h y).2 (by simp)) with e2 | e2
    ·exact e2.symm
    ·exact (nt (hx y e2) (hy x e)).elim
  subst e
  rw [srtH_ext hl' hk' (fun z => ?_)]
  constructor
  ·intro hz
   rcases List.mem_cons.1 ((h z).1 (by simp [hz])) with e | e
   ·subst e; exact (nt (hx z hz) (hx z hz)).elim
   ·exact e
  ·intro hz
   rcases List.mem_cons.1 ((h z).2 (by simp [hz])) with e | e
   ·subst e; exact (nt (hy z hz) (hy z hz)).elim
   ·exact e
theorem hold_mem {h : List L.T3} {x y : L.T3} : y ∈ L.hold h x ↔ y = x \/ (y ∈ h /\ ¬ (y.a = x.a /\ y.b = x.b)) := by
 unfold L.hold
 obtain ⟨k, hk⟩ : ∃ k, (L.others h x.a x.b).findIdx (L.behind x.a x.b) = k := ⟨_, rfl⟩
 rw [hk, List.mem_append, List.mem_cons]
 have h1 : y ∈ L.others h x.a x.b ↔ y ∈ h /\ ¬ (y.a = x.a /\ y.b = x.b) := by
  unfold L.others
  rw [List.mem_filter]
  cases hb : L.isOf x.a x.b y with
  | true => have := L.isOf_iff.1 hb; simp [this]
  | false => simp; intro _ e1 e2; rw [L.isOf_iff.2 ⟨e1, e2⟩] at hb; cases hb
 rw [<- h1]
 have h2 : y ∈ L.others h x.a x.b ↔ y ∈ (L.others h x.a x.b).take k \/ y ∈ (L.others h x.a x.b).drop k := by
  conv => lhs; rw [<- List.take_append_drop k (L.others h x.a x.b), List.mem_append]
 rw [h2]; grind
theorem hold_srt {h : List L.T3} (hs : SrtH h) (x : L.T3) : SrtH (L.hold h x) := by
 obtain ⟨o, ho⟩ : ∃ o, L.others h x.a x.b = o := ⟨_, rfl⟩
 have hso : SrtH o := by rw [<- ho]; exact List.Pairwise.filter _ hs
 have hne : ∀ y ∈ o, ¬ (y.a = x.a /\ y.b = x.b) := fun y hy e => by
  rw [<- ho] at hy
  have := (List.mem_filter.1 hy).2
  rw [L.isOf_iff.2 e] at this; cases this
 unfold L.hold
 rw [ho]
 have hbl : ∀ y, L.behind x.a x.b y = true ↔ LtH x y := fun y => by rw [L.behind_iff]; unfold LtH; omega
 have hs2 : SrtH (o.take (o.findIdx (L.behind x.a x.b)) ++ o.drop (o.findIdx (L.behind x.a x.b))) := by rw [List.take_append_drop]; exact hso
 unfold SrtH at hs2 ⊢
 rw [List.pairwise_append] at hs2 ⊢
 have hah : ∀ y ∈ o.take (o.findIdx (L.behind x.a x.b)), LtH y x := fun y hy => by
  have hyo := List.mem_of_mem_take hy
  obtain ⟨j, hj, rfl⟩ := List.mem_take_iff_getElem.1 hy
  have h1 := List.not_of_lt_findIdx (p := L.behind x.a x.b) (xs := o) (i := j) (by omega)
  have h2 := hne _ hyo
  have h3 : ¬ LtH x o[j] := fun e => by rw [(hbl _).2 e] at h1; cases h1
  unfold LtH at h3 ⊢; omega
 have hbe : ∀ y ∈ o.drop (o.findIdx (L.behind x.a x.b)), LtH x y := fun y hy => by
  obtain ⟨j, hj, rfl⟩ := List.mem_drop_iff_getElem.1 hy
  have h0 : o.findIdx (L.behind x.a x.b) < o.length := by omega
  have h2 : LtH x (o[o.findIdx (L.behind x.a x.b)]) := (hbl _).1 (List.findIdx_getElem (w := h0))
  by_cases hj0 : j = 0
  ·subst hj0; simpa using h2
  ·have h3 := List.pairwise_iff_getElem.1 hso _ (o.findIdx (L.behind x.a x.b) + j) h0 (by omega) (by omega)
   unfold LtH at *; omega
 refine ⟨hs2.1, List.pairwise_cons.2 ⟨hbe, hs2.2.1⟩, fun y hy z hz => ?_⟩
 rcases List.mem_cons.1 hz with rfl | hz
 ·exact hah y hy
 ·exact hs2.2.2 y hy z hz
theorem clean_mem {h : List L.T3} {n : Int} {y : L.T3} : y ∈ L.clean h n ↔ y ∈ h /\ n < y.x := by
 unfold L.clean; rw [List.mem_filter]; simp
theorem clean_srt {h : List L.T3} (hs : SrtH h) (n : Int) : SrtH (L.clean h n) := List.Pairwise.filter _ hs
end Y
namespace Y
theorem due_none {i n : Int} {l : List L.Ls} : due i n l = none ↔ ∀ x ∈ l, n < x.t + i := by
 induction l with
 | nil => simp [due]
 | cons x l ih =>
  unfold due
  cases h : due i n l with
  | none =>
   have h2 := ih.1 h
   by_cases hx : x.t + i <= n
   ·simp only [if_pos hx]
    constructor
    ·intro e; cases e
    ·intro e; have := e x (by simp); omega
   ·simp only [if_neg hx]
    refine ⟨fun _ y hy => ?_, fun _ => trivial⟩
    rcases List.mem_cons.1 hy with rfl | hy
    ·omega
    ·exact h2 y hy
  | some y =>
   have hne : ¬ ∀ x ∈ l, n < x.t + i := fun e => by rw [ih.2 e] at h; cases h
   constructor
   ·intro e
    simp only at e
    split at e <;> cases e
   ·intro e
    exact absurd (fun z hz => e z (by simp [hz])) hne
theorem due_some {i n : Int} : ∀ {l : List L.Ls} {x : L.Ls}, due i n l = some x -> x ∈ l /\ x.t + i <= n /\ ∀ y ∈ l, y.t + i <= n -> x.t <= y.t
 | [], x, h => by simp [due] at h
 | z :: l, x, h => by
  unfold due at h
  cases h2 : due i n l with
  | none =>
   rw [h2] at h
   simp only at h
   split at h
   ·cases h
    refine ⟨by simp, by assumption, fun y hy hyn => ?_⟩
    rcases List.mem_cons.1 hy with rfl | hy
    ·exact Int.le_refl _
    ·have := due_none.1 h2 y hy; omega
   ·cases h
  | some y =>
   rw [h2] at h
   obtain ⟨h3, h4, h5⟩ := due_some h2
   simp only at h
   split at h
   ·rename_i hc
    cases h
    refine ⟨by simp, hc.1, fun w hw hwn => ?_⟩
    rcases List.mem_cons.1 hw with rfl | hw
    ·exact Int.le_refl _
    ·have := h5 w hw hwn; omega
   ·rename_i hc
    cases h
    refine ⟨by simp [h3], h4, fun w hw hwn => ?_⟩
    rcases List.mem_cons.1 hw with rfl | hw
    ·omega
    ·exact h5 w hw hwn
theorem due_mono {i n m : Int} (hnm : n <= m) : ∀ {l : List L.Ls} {x : L.Ls}, due i n l = some x -> due i m l = some x
 | [], x, h => by simp [due] at h
 | z :: l, x, h => by
  unfold due at h ⊢
  cases h2 : due i n l with
  | none =>
   rw [h2] at h
   simp only at h
   split at h
   ·rename_i hz
    cases h
    cases h3 : due i m l with
    | none => simp only; rw [if_pos (by omega)]
    | some w =>
     have h4 := (due_some h3).1
     have h5 := due_none.1 h2 w h4
     simp only
     rw [if_pos ⟨by omega, by omega⟩]
   ·cases h
  | some y =>
   rw [h2] at h
   have h3 := due_mono hnm h2
   have h4 := (due_some h2).2.1
   rw [h3]
   simp only at h ⊢
   split at h
   ·rename_i hc
    cases h
    rw [if_pos ⟨by omega, hc.2⟩]
   ·rename_i hc
    cases h
    rw [if_neg]
    rintro ⟨e1, e2⟩
    exact hc ⟨by omega, e2⟩
theorem free1_len {s : St} {x : L.Ls} {t : Int} (hx : x ∈ s.l) : (free1 s x t).l.length + 1 = s.l.length := by
 have h1 := L.del_len2 s.l x.a x.b
 rw [del_is hx, if_pos rfl] at h1
 have h2 := List.length_pos_of_mem hx
 show (L.del s.l x.a x.b).1.length + 1 = _
 omega
theorem free1_srt {s : St} {x : L.Ls} {t : Int} (h : L.Srt s.l) : L.Srt (free1 s x t).l := del_srt h _ _
theorem run_some {n : Int} {f : Nat} {s : St} {x : L.Ls} (h : due s.p.i n s.l = some x) : run n (f + 1) s = ((run n f (free1 s x (x.t + s.p.i))).1, evF x (x.t + s.p.i) :: (run n f (free1 s x (x.t + s.p.i))).2) := by
 rw [run, h]
theorem run_none {n : Int} {f : Nat} {s : St} (h : due s.p.i n s.l = none) : run n f s = (s, []) := by
 cases f with
 | zero => rfl
 | succ f => rw [run, h]
theorem run_fuel {n : Int} : ∀ {f g : Nat} {s : St}, s.l.length <= f -> s.l.length <= g -> run n f s = run n g s
 | 0, g, s, hf, hg => by
  have h0 : s.l = [] := List.eq_nil_of_length_eq_zero (by omega)
  rw [run_none (f := g) (by rw [h0]; rfl)]; rfl
 | f + 1, 0, s, hf, hg => by
  have h0 : s.l = [] := List.eq_nil_of_length_eq_zero (by omega)
  rw [run_none (f := f + 1) (by rw [h0]; rfl)]; rfl
 | f + 1, g + 1, s, hf, hg => by
  cases h : due s.p.i n s.l with
  | none => rw [run_none h, run_none h]
  | some x =>
   have hl := free1_len (t := x.t + s.p.i) (due_some h).1
   rw [run_some h, run_some h, run_fuel (f := f) (g := g) (by omega) (by omega)]
theorem run_keep {n : Int} : ∀ {f : Nat} {s : St}, (run n f s).1.d = s.d /\ (run n f s).1.p = s.p /\ (run n f s).1.now = s.now /\ (run n f s).1.ps = s.ps
 | 0, s => ⟨rfl, rfl, rfl, rfl⟩
 | f + 1, s => by
  cases h : due s.p.i n s.l with
  | none => rw [run_none h]; exact ⟨rfl, rfl, rfl, rfl⟩
  | some x => rw [run_some h]; exact run_keep (f := f) (s := free1 s x (x.t + s.p.i))
theorem run_srt {n : Int} : ∀ {f : Nat} {s : St}, L.Srt s.l -> L.Srt (run n f s).1.l
 | 0, s, hs => hs
 | f + 1, s, hs => by
  cases h : due s.p.i n s.l with
  | none => rw [run_none h]; exact hs
  | some x => rw [run_some h]; exact run_srt (f := f) (free1_srt hs)
theorem run_mem {n : Int} : ∀ {f : Nat} {s : St}, L.Srt s.l -> s.l.length <= f -> ∀ y, y ∈ (run n f s).1.l ↔ y ∈ s.l /\ n < y.t + s.p.i
 | 0, s, hs, hf => fun y => by
  have h0 : s.l = [] := List.eq_nil_of_length_eq_zero (by omega)
  show y ∈ s.l ↔ _
  rw [h0]; simp
 | f + 1, s, hs, hf => fun y => by
  cases h : due s.p.i n s.l with
  | none =>
   rw [run_none h]
   exact ⟨fun hy => ⟨hy, due_none.1 h y hy⟩, fun hy => hy.1⟩
  | some x =>
   obtain ⟨h1, h2, h3⟩ := due_some h
   have hl := free1_len (t := x.t + s.p.i) h1
   rw [run_some h]
   have := run_mem (n := n) (f := f) (s := free1 s x (x.t + s.p.i)) (free1_srt hs) (by omega) y
   rw [show (free1 s x (x.t + s.p.i)).p = s.p from rfl] at this
   rw [this]
   show y ∈ (L.del s.l x.a x.b).1 /\ _ ↔ _
   rw [del_mem hs h1]
   constructor
   ·rintro ⟨⟨h4, _⟩, h6⟩; exact ⟨h4, h6⟩
   ·rintro ⟨h4, h6⟩; exact ⟨⟨h4, fun e => by rw [e] at h6; omega⟩, h6⟩
theorem run_l {n : Int} {f : Nat} {s : St} (hs : L.Srt s.l) (hf : s.l.length <= f) : (run n f s).1.l = s.l.filter fun y => decide (n < y.t + s.p.i) := by
 refine L.srt_ext (run_srt hs) (List.Pairwise.filter _ hs) (fun y => ?_)
 rw [run_mem hs hf, List.mem_filter]; simp
theorem free1_h {s : St} {x : L.Ls} {t : Int} (h : SrtH s.h) : SrtH (free1 s x t).h := by
 unfold free1
 show SrtH (if 0 < s.p.h then _ else _)
 split
 ·exact hold_srt h _
 ·exact h
theorem free1_mem {s : St} {x : L.Ls} {t : Int} {y : L.T3} : y ∈ (free1 s x t).h ↔ (0 < s.p.h /\ y = ⟨x.a, x.b, t + s.p.h⟩) \/ (y ∈ s.h /\ ¬ (0 < s.p.h /\ y.a = x.a /\ y.b = x.b)) := by
 unfold free1
 show y ∈ (if 0 < s.p.h then _ else _) ↔ _
 split
 ·rename_i h; rw [hold_mem]; simp [h]
 ·rename_i h; simp [h]
theorem run_srtH {n : Int} : ∀ {f : Nat} {s : St}, SrtH s.h -> SrtH (run n f s).1.h
 | 0, s, hs => hs
 | f + 1, s, hs => by
  cases h : due s.p.i n s.l with
  | none => rw [run_none h]; exact hs
  | some x => rw [run_some h]; exact run_srtH (f := f) (free1_h hs)
theorem run_held {n : Int} : ∀ {f : Nat} {s : St}, L.Srt s.l -> s.l.length <= f -> ∀ y, y ∈ (run n f s).1.h ↔
  (0 < s.p.h /\ ∃ x ∈ s.l, x.t + s.p.i <= n /\ y = ⟨x.a, x.b, x.t + s.p.i + s.p.h⟩) \/ (y ∈ s.h /\ ¬ (0 < s.p.h /\ ∃ x ∈ s.l, x.t + s.p.i <= n /\ y.a = x.a /\ y.b = x.b))
 | 0, s, hs, hf => fun y => by
  have h0 : s.l = [] := List.eq_nil_of_length_eq_zero (by omega)
  show y ∈ s.h ↔ _
  rw [h0]; simp
 | f + 1, s, hs, hf => fun y => by
  cases h : due s.p.i n s.l with
  | none =>
   rw [run_none h]
   have h2 := due_none.1 h
   constructor
   ·intro hy
    refine .inr ⟨hy, ?_⟩
    rintro ⟨_, x, hx, hxn, _⟩
    have := h2 x hx; omega
   ·rintro (⟨_, x, hx, hxn, _⟩ | ⟨hy, _⟩)
    ·have := h2 x hx; omega
    ·exact hy
  | some x =>
   obtain ⟨h1, h2, h3⟩ := due_some h
   have hl := free1_len (t := x.t + s.p.i) h1
   rw [run_some h]
   have ih := run_held (n := n) (f := f) (s := free1 s x (x.t + s.p.i)) (free1_srt hs) (by omega) y
   rw [show (free1 s x (x.t + s.p.i)).p = s.p from rfl] at ih
   rw [ih, free1_mem]
   have hd : ∀ z, z ∈ (free1 s x (x.t + s.p.i)).l ↔ z ∈ s.l /\ z ≠ x := fun z => del_mem hs h1
   constructor
   ·rintro (⟨hp, z, hz, hzn, e⟩ | ⟨⟨hp, e⟩ | ⟨hy, hno⟩, hno2⟩)
    ·exact .inl ⟨hp, z, ((hd z).1 hz).1, hzn, e⟩
    ·exact .inl ⟨hp, x, h1, h2, e⟩
    ·refine .inr ⟨hy, ?_⟩
     rintro ⟨hp, z, hz, hzn, e1, e2⟩
     by_cases hzx : z = x
     ·subst hzx; exact hno ⟨hp, e1, e2⟩
     ·exact hno2 ⟨hp, z, (hd z).2 ⟨hz, hzx⟩, hzn, e1, e2⟩
   ·rintro (⟨hp, z, hz, hzn, e⟩ | ⟨hy, hno⟩)
    ·by_cases hzx : z = x
     ·subst hzx
      refine .inr ⟨.inl ⟨hp, e⟩, ?_⟩
      rintro ⟨_, w, hw, hwn, e1, e2⟩
      obtain ⟨hw1, hw2⟩ := (hd w).1 hw
      rw [e] at e1 e2
      exact hw2 (blk_one hs hw1 h1 e1.symm e2.symm)
     ·exact .inl ⟨hp, z, (hd z).2 ⟨hz, hzx⟩, hzn, e⟩
    ·refine .inr ⟨.inr ⟨hy, fun hh => hno ⟨hh.1, x, h1, h2, hh.2.1, hh.2.2⟩⟩, ?_⟩
     rintro ⟨hp, z, hz, hzn, e1, e2⟩
     exact hno ⟨hp, z, ((hd z).1 hz).1, hzn, e1, e2⟩
theorem run_same {n : Int} : ∀ {f : Nat} {s s' : St}, s.p = s'.p -> s.l = s'.l -> (run n f s).2 = (run n f s').2 /\ (run n f s).1.l = (run n f s').1.l
 | 0, s, s', hp, hl => ⟨rfl, hl⟩
 | f + 1, s, s', hp, hl => by
  cases h : due s.p.i n s.l with
  | none =>
   have h' : due s'.p.i n s'.l = none := by rw [<- hp, <- hl]; exact h
   rw [run_none h, run_none h']; exact ⟨rfl, hl⟩
  | some x =>
   have h' : due s'.p.i n s'.l = some x := by rw [<- hp, <- hl]; exact h
   rw [run_some h, run_some h']
   have := run_same (n := n) (f := f) (s := free1 s x (x.t + s.p.i)) (s' := free1 s' x (x.t + s'.p.i)) hp (by show (L.del s.l x.a x.b).1 = (L.del s'.l x.a x.b).1; rw [hl])
   rw [this.1, hp]
   exact ⟨rfl, by rw [<- hp]; exact this.2.trans (by rw [hp])⟩
theorem run_len {n : Int} : ∀ (f : Nat) (s : St), (run n f s).1.l.length <= s.l.length
 | 0, s => Nat.le_refl _
 | f + 1, s => by
  cases h : due s.p.i n s.l with
  | none => rw [run_none h]; exact Nat.le_refl _
  | some y =>
   rw [run_some h]
   have h1 := free1_len (t := y.t + s.p.i) (due_some h).1
   have h2 := run_len (n := n) f (free1 s y (y.t + s.p.i))
   show (run n f (free1 s y (y.t + s.p.i))).1.l.length <= _
   omega
theorem run_split {n m : Int} (hnm : n <= m) : ∀ {f : Nat} {s : St}, s.l.length <= f -> run m f s = ((run m f (run n f s).1).1, (run n f s).2 ++ (run m f (run n f s).1).2)
 | 0, s, hf => rfl
 | f + 1, s, hf => by
  cases h : due s.p.i n s.l with
  | none => rw [run_none (n := n) h]; rfl
  | some x =>
   have hl := free1_len (t := x.t + s.p.i) (due_some h).1
   rw [run_some (n := n) h, run_some (due_mono hnm h)]
   have ih := run_split hnm (f := f) (s := free1 s x (x.t + s.p.i)) (by omega)
   have hl2 : (run n f (free1 s x (x.t + s.p.i))).1.l.length <= f := Nat.le_trans (run_len _ _) (by omega)
   simp only
   rw [run_fuel (f := f + 1) (g := f) (s := (run n f (free1 s x (x.t + s.p.i))).1) (by omega) hl2, ih]
   rfl
end Y
namespace Y
theorem cnt_sub {l k : List L.Ls} (h : l.Sublist k) (s : Int) : cnt l s <= cnt k s := (h.filter _).length_le
theorem del_sub (l : List L.Ls) (a b : Int) : (L.del l a b).1.Sublist l := by
 unfold L.del
 split
 ·exact List.Sublist.refl _
 ·rw [<- List.eraseIdx_eq_take_drop_succ]; exact List.eraseIdx_sublist _ _
theorem cnt_put (l : List L.Ls) (x : L.Ls) (s : Int) : cnt (L.put l x).1 s <= cnt l s + (if x.s = s then 1 else 0) := by
 cases h : (L.put l x).2 with
 | false => rw [L.put_no h]; omega
 | true =>
  rw [L.put_yes h]
  have e : cnt l s = cnt (l.take (L.spot l x.a x.b)) s + cnt (l.drop (L.spot l x.a x.b)) s := by
   unfold cnt
   conv => lhs; rw [<- List.take_append_drop (L.spot l x.a x.b) l, List.filter_append, List.length_append]
  rw [e]
  unfold cnt
  rw [List.filter_append, List.length_append, List.filter_cons]
  by_cases hs : x.s = s
  ·simp [hs]; omega
  ·simp [hs]
theorem cnt_map {f : L.Ls -> L.Ls} (hf : ∀ x, (f x).s = x.s) (l : List L.Ls) (s : Int) : cnt (l.map f) s = cnt l s := by
 unfold cnt
 rw [List.filter_map, List.length_map]
 congr 1
 apply List.filter_congr
 intro x _
 simp [hf]
theorem inc_len : ∀ {l : List Int} {a b : Int}, l.Pairwise (· < ·) -> (∀ x ∈ l, a <= x /\ x < b) -> a <= b -> (l.length : Int) <= b - a
 | [], a, b, _, _, h => by simp; omega
 | x :: l, a, b, hs, hb, h => by
  obtain ⟨h1, h2⟩ := List.pairwise_cons.1 hs
  have hx := hb x (by simp)
  have := inc_len (a := x + 1) (b := b) h2 (fun y hy => by have := h1 y hy; have := hb y (by simp [hy]); omega) (by omega)
  rw [List.length_cons]; omega
theorem inc_miss {l : List Int} {a b k : Int} (hs : l.Pairwise (· < ·)) (hb : ∀ x ∈ l, a <= x /\ x < b) (h0 : a <= k) (h1 : k < b) (hk : k ∉ l) : (l.length : Int) < b - a := by
 have e1 := inc_len (l := l.filter fun x => decide (x < k)) (a := a) (b := k) (hs.filter _) (fun x hx => by
  obtain ⟨h2, h3⟩ := List.mem_filter.1 hx
  have := hb x h2; simp at h3; omega) h0
 have e2 := inc_len (l := l.filter fun x => !decide (x < k)) (a := k + 1) (b := b) (hs.filter _) (fun x hx => by
  obtain ⟨h2, h3⟩ := List.mem_filter.1 hx
  have := hb x h2
  have h4 : x ≠ k := fun e => hk (e ▸ h2)
  simp at h3; omega) (by omega)
 have e3 : l.length = (l.filter fun x => decide (x < k)).length + (l.filter fun x => !decide (x < k)).length := by
  rw [<- List.countP_eq_length_filter, <- List.countP_eq_length_filter, List.length_eq_countP_add_countP (fun x => decide (x < k))]
  congr 1
  apply List.countP_congr
  intro x _; simp
 omega
theorem of_ge {l : List O.Pl} {x : Int} : 0 <= O.of l x ↔ ∃ p ∈ l, O.has p x = true := by
 rcases O.of_cases l x with ⟨h, h2⟩ | ⟨i, p, h, hi, hp, _⟩
 ·rw [h]
  exact ⟨fun e => by omega, fun ⟨p, hp, e⟩ => by rw [h2 p hp] at e; cases e⟩
 ·rw [h]
  exact ⟨fun _ => ⟨p, List.mem_of_getElem? hi, hp⟩, fun _ => by omega⟩
theorem of_in {l : List O.Pl} {out x : Int} (hm : O.May l out) (h : 0 <= O.of l x) : 0 <= x /\ x < out := by
 obtain ⟨p, hp, hh⟩ := of_ge.1 h
 have h1 := O.has_iff.1 hh
 have h2 := O.fits_iff.1 (hm.2.2.2.1 p hp)
 omega
theorem gives_of {l : List O.Pl} {x : Int} (h : O.gives l x = true) : 0 <= O.of l x := by
 unfold O.gives at h; exact (of_decide_eq_true h).1
theorem nb_in {s : St} (h : E.fit s.d = true) : 0 <= E.nb s.d /\ E.nb s.d <= 8 := by
 have := (E.fits_iff.1 h).nb'
 exact ⟨this.1, this.2.1⟩
theorem blks_nb {s : St} (h : E.fit s.d = true) : blks s = E.nb s.d := by
 have h1 := nb_in h
 have h2 : (0 : Int) < 2 ^ (E.nb s.d).toNat := Int.pow_pos (by decide)
 unfold blks U.newN
 rw [if_pos (U.may_iff.2 ⟨h1.1, h1.2, by omega, h2⟩)]
theorem block_ok {s : St} {x b : Int} (hf : E.fit s.d = true) (h : block s x = b) (h0 : 0 <= b) :
  O.gives s.ps x = true /\ b < E.nb s.d /\ L.find s.l x b = -1 /\ ∀ y ∈ s.h, ¬ (y.a = x /\ y.b = b) := by
 unfold block at h
 by_cases hg : O.gives s.ps x = true
 ·rw [if_pos hg] at h
  refine ⟨hg, ?_⟩
  have hm := L.map_may (N := blks s) (at' := x) (l := s.l) (k := s.h) (nb := E.nb s.d) rfl rfl rfl
  have hfn := L.map_first (N := blks s) (at' := x) (l := s.l) (k := s.h) (nb := E.nb s.d) (f := b) rfl rfl rfl h h0
  have hm' : U.may (blks s) (map s x) = true := hm
  obtain ⟨_, h2, h3, _⟩ := U.free_facts hm'
  rw [h] at h2 h3
  have hne : (b == -1) = false := by simp; omega
  have hlen : 0 < (U.free (blks s) (map s x)).length := by
   rw [hne] at h2
   rcases Nat.eq_zero_or_pos (U.free (blks s) (map s x)).length with e | e
   ·rw [e] at h2; cases h2
   ·exact e
  rw [decide_eq_true hlen] at h3
  have hin := U.off_in h3
  refine ⟨by rw [<- blks_nb hf]; exact hin.2.2, hfn, fun y hy e => ?_⟩
  have hh := L.map_has (N := blks s) (at' := x) (i := b) (l := s.l) (k := s.h) (nb := E.nb s.d) rfl rfl rfl h0 hin.2.2
  have hh' : U.has (blks s) (map s x) b = (decide (0 <= L.find s.l x b) || s.h.any (L.isOf x b)) := hh
  rw [L.has_or hm' h0 hin.2.2, h3] at hh'
  have : s.h.any (L.isOf x b) = true := List.any_eq_true.2 ⟨y, hy, L.isOf_iff.2 e⟩
  rw [this] at hh'; simp at hh'
 ·rw [if_neg hg] at h; omega
theorem blkB_of {d : E.D} {a b : Int} (h : 0 <= a /\ a < E.no d) (h2 : 0 <= b /\ b < E.nb d) : E.blkB d a b = true := by
 unfold E.blkB; rw [decide_eq_true h, decide_eq_true h2]; rfl
theorem blkB_in {d : E.D} {a b : Int} (h : E.blkB d a b = true) : (0 <= a /\ a < E.no d) /\ (0 <= b /\ b < E.nb d) := (E.blkB_iff.1 h).2
theorem room {s : St} (hm : May s) {a b : Int} (h : E.blkB s.d a b = true) (hf : L.find s.l a b = -1) : s.l.length < 32 := by
 obtain ⟨hfit, _, _, _, _, hs, hl, _, _⟩ := hm
 have hno := (E.fits_iff.1 hfit).no
 have hnb := nb_in hfit
 have hk : ∀ {u v : Int}, E.blkB s.d u v = true -> 0 <= u /\ u < 4 /\ 0 <= v /\ v < 8 := fun h => by have := blkB_in h; omega
 have h1 := hk h
 have := inc_miss (l := s.l.map fun x => x.a * 8 + x.b) (a := 0) (b := 32) (k := a * 8 + b)
  (by
   rw [List.pairwise_map]
   refine List.Pairwise.imp_of_mem (R := L.Lt) (fun {x y} hx hy h => ?_) hs
   have e1 := hk (hl x hx).2.1
   have e2 := hk (hl y hy).2.1
   unfold L.Lt at h; omega)
  (fun z hz => by
   obtain ⟨x, hx, rfl⟩ := List.mem_map.1 hz
   have := hk (hl x hx).2.1; omega)
  (by omega) (by omega)
  (fun hz => by
   obtain ⟨x, hx, e⟩ := List.mem_map.1 hz
   have h3 := hk (hl x hx).2.1
   exact L.find_none.1 hf x hx ⟨by omega, by omega⟩)
 rw [List.length_map] at this
 omega
theorem okL_of {s t : St} {x : L.Ls} (h : okL s x) (hd : t.d = s.d) (hp : t.p = s.p) (hn : t.now = s.now) (hps : 0 <= O.of t.ps x.a) (hc : cnt t.l x.s <= cnt s.l x.s) : okL t x := by
 obtain ⟨h1, h2, h3, h4, h5, h6, h7, h8, h9⟩ := h
 unfold okL
 rw [hd, hp, hn]
 exact ⟨h1, h2, hps, h4, h5, h6, h7, h8, by omega⟩
theorem give_ok {s : St} {sub x b : Int} (hm : May s) (hB : E.baseB s.d sub = true) (hq : (cnt s.l sub : Int) < s.p.q) (hp : s.p.pair = true -> E.baseA s.d sub = x) (h : block s x = b) (h0 : 0 <= b) :
  (L.put s.l ⟨sub, x, b, s.now, s.now⟩).2 = true /\ E.blkB s.d x b = true /\ May { s with l := (L.put s.l ⟨sub, x, b, s.now, s.now⟩).1 } := by
 obtain ⟨hg, hb, hf, hh⟩ := block_ok hm.1 h h0
 have hof := gives_of hg
 have hx := of_in hm.2.2.1 hof
 have hblk := blkB_of hx ⟨h0, hb⟩
 have hr := room hm hblk hf
 have hput : (L.put s.l ⟨sub, x, b, s.now, s.now⟩).2 = true := by rw [L.put_is]; exact decide_eq_true ⟨hf, hr⟩
 refine ⟨hput, hblk, ?_⟩
 obtain ⟨m1, m2, m3, m4, m5, m6, m7, m8, m9⟩ := hm
 refine ⟨m1, m2, m3, m4, ?_, L.put_srt m6, fun y hy => ?_, m8, fun y hy => ?_⟩
 ·show (L.put s.l ⟨sub, x, b, s.now, s.now⟩).1.length <= 32
  rw [L.put_len, if_pos hput]; omega
 ·have hc := cnt_put s.l ⟨sub, x, b, s.now, s.now⟩ y.s
  rcases L.put_mem.1 hy with hy | ⟨_, rfl⟩
  ·obtain ⟨k1, k2, k3, k4, k5, k6, k7, k8, k9⟩ := m7 y hy
   refine ⟨k1, k2, k3, k4, k5, k6, k7, k8, ?_⟩
   show ((cnt (L.put s.l ⟨sub, x, b, s.now, s.now⟩).1 y.s : Nat) : Int) <= s.p.q
   by_cases e : sub = y.s
   ·rw [if_pos e] at hc; rw [e] at hq; omega
   ·rw [if_neg e] at hc; omega
  ·rw [if_pos rfl] at hc
   refine ⟨hB, hblk, hof, hp, m4.1, Int.le_refl _, Int.le_refl _, ?_, ?_⟩
   ·show s.now < s.now + s.p.i
    have := m2.2.2.1; omega
   ·show ((cnt (L.put s.l ⟨sub, x, b, s.now, s.now⟩).1 sub : Nat) : Int) <= s.p.q
    have hc' : cnt (L.put s.l ⟨sub, x, b, s.now, s.now⟩).1 sub <= cnt s.l sub + 1 := hc
    omega
 ·obtain ⟨k1, k2, k3, k4⟩ := m9 y hy
  refine ⟨k1, k2, k3, fun z hz => ?_⟩
  rcases L.put_mem.1 hz with hz | ⟨_, rfl⟩
  ·exact k4 z hz
  ·exact fun e => hh y hy ⟨e.1.symm, e.2.symm⟩
theorem free1_may {s : St} {x : L.Ls} (hm : May s) (hx : x ∈ s.l) : May (free1 s x s.now) := by
 obtain ⟨m1, m2, m3, m4, m5, m6, m7, m8, m9⟩ := hm
 have hd : ∀ y, y ∈ (free1 s x s.now).l ↔ y ∈ s.l /\ y ≠ x := fun y => del_mem m6 hx
 refine ⟨m1, m2, m3, m4, Nat.le_trans (L.del_len _ _ _) m5, free1_srt m6, fun y hy => ?_, free1_h m8, fun y hy => ?_⟩
 ·exact okL_of (m7 y ((hd y).1 hy).1) rfl rfl rfl (m7 y ((hd y).1 hy).1).2.2.1 (cnt_sub (del_sub _ _ _) _)
 ·rcases free1_mem.1 hy with ⟨hp, rfl⟩ | ⟨hy, hno⟩
  ·refine ⟨(m7 x hx).2.1, ?_, ?_, fun z hz e => ?_⟩
   ·show s.now < s.now + s.p.h; omega
   ·show s.now + s.p.h <= s.now + 1048576
    have := m2.2.2.2.2.2; omega
   ·obtain ⟨h1, h2⟩ := (hd z).1 hz
    exact h2 (blk_one m6 h1 hx e.1 e.2)
  ·obtain ⟨k1, k2, k3, k4⟩ := m9 y hy
   exact ⟨k1, k2, k3, fun z hz => k4 z ((hd z).1 hz).1⟩
def fresh (s : St) (a b : Int) (y : L.Ls) : L.Ls := if y.a = a /\ y.b = b then { y with t := s.now } else y
theorem fresh_s (s : St) (a b : Int) (y : L.Ls) : (fresh s a b y).s = y.s /\ (fresh s a b y).a = y.a /\ (fresh s a b y).b = y.b /\ (fresh s a b y).f = y.f := by
 unfold fresh; split <;> exact ⟨rfl, rfl, rfl, rfl⟩
theorem fresh_srt {s : St} {a b : Int} (h : L.Srt s.l) : L.Srt (s.l.map (fresh s a b)) := by
 unfold L.Srt at *
 rw [List.pairwise_map]
 refine h.imp (fun {x y} h => ?_)
 unfold L.Lt at *
 rw [(fresh_s s a b x).2.1, (fresh_s s a b x).2.2.1, (fresh_s s a b y).2.1, (fresh_s s a b y).2.2.1]
 exact h
theorem fresh_may {s : St} {a b : Int} (hm : May s) : May { s with l := s.l.map (fresh s a b) } := by
 obtain ⟨m1, m2, m3, m4, m5, m6, m7, m8, m9⟩ := hm
 refine ⟨m1, m2, m3, m4, by show (s.l.map _).length <= 32; rw [List.length_map]; exact m5, fresh_srt m6, fun y hy => ?_, m8, fun y hy => ?_⟩
 ·obtain ⟨x, hx, rfl⟩ := List.mem_map.1 hy
  obtain ⟨k1, k2, k3, k4, k5, k6, k7, k8, k9⟩ := m7 x hx
  obtain ⟨f1, f2, f3, f4⟩ := fresh_s s a b x
  unfold okL
  rw [f1, f2, f3, f4]
  refine ⟨k1, k2, k3, k4, k5, ?_, ?_, ?_, ?_⟩
  ·unfold fresh; split
   ·show x.f <= s.now; omega
   ·exact k6
  ·unfold fresh; split
   ·exact Int.le_refl _
   ·exact k7
  ·unfold fresh; split
   ·show s.now < s.now + s.p.i
    have := m2.2.2.1; omega
   ·exact k8
  ·show ((cnt (s.l.map (fresh s a b)) x.s : Nat) : Int) <= s.p.q
   rw [cnt_map (fun x => (fresh_s s a b x).1)]; exact k9
 ·obtain ⟨k1, k2, k3, k4⟩ := m9 y hy
  refine ⟨k1, k2, k3, fun z hz => ?_⟩
  obtain ⟨x, hx, rfl⟩ := List.mem_map.1 hz
  rw [(fresh_s s a b x).2.1, (fresh_s s a b x).2.2.1]
  exact k4 x hx
def after (s : St) (n : Int) : St := { (run n s.l.length s).1 with now := n, h := L.clean (run n s.l.length s).1.h n }
theorem after_keep (s : St) (n : Int) : (after s n).d = s.d /\ (after s n).p = s.p /\ (after s n).now = n /\ (after s n).ps = s.ps := by
 obtain ⟨h1, h2, h3, h4⟩ := run_keep (n := n) (f := s.l.length) (s := s)
 exact ⟨h1, h2, rfl, h4⟩
theorem after_l {s : St} (h : L.Srt s.l) (n : Int) : (after s n).l = s.l.filter fun y => decide (n < y.t + s.p.i) := run_l h (Nat.le_refl _)
theorem after_mem {s : St} (h : L.Srt s.l) {n : Int} {y : L.Ls} : y ∈ (after s n).l ↔ y ∈ s.l /\ n < y.t + s.p.i := run_mem h (Nat.le_refl _) y
theorem after_h {s : St} (h : L.Srt s.l) {n : Int} {y : L.T3} : y ∈ (after s n).h ↔ n < y.x /\ ((0 < s.p.h /\ ∃ x ∈ s.l, x.t + s.p.i <= n /\ y = ⟨x.a, x.b, x.t + s.p.i + s.p.h⟩) \/ (y ∈ s.h /\ ¬ (0 < s.p.h /\ ∃ x ∈ s.l, x.t + s.p.i <= n /\ y.a = x.a /\ y.b = x.b))) := by
 show y ∈ L.clean (run n s.l.length s).1.h n ↔ _
 rw [clean_mem, run_held h (Nat.le_refl _)]
 exact ⟨fun e => ⟨e.2, e.1⟩, fun e => ⟨e.2, e.1⟩⟩
theorem after_may {s : St} {n : Int} (hm : May s) (h0 : s.now <= n) (h1 : n <= 1073741824) : May (after s n) := by
 obtain ⟨m1, m2, m3, m4, m5, m6, m7, m8, m9⟩ := hm
 obtain ⟨a1, a2, a3, a4⟩ := after_keep s n
 have hl := after_l m6 n
 have hsub : (after s n).l.Sublist s.l := by rw [hl]; exact List.filter_sublist
 refine ⟨by rw [a1]; exact m1, by rw [a2]; exact m2, by rw [a1, a4]; exact m3, by rw [a3]; omega, Nat.le_trans hsub.length_le m5, run_srt m6, fun y hy => ?_, clean_srt (run_srtH m8) n, fun y hy => ?_⟩
 ·obtain ⟨hy1, hy2⟩ := (after_mem m6).1 hy
  obtain ⟨k1, k2, k3, k4, k5, k6, k7, k8, k9⟩ := m7 y hy1
  have := cnt_sub hsub y.s
  unfold okL
  rw [a1, a2, a3, a4]
  exact ⟨k1, k2, k3, k4, k5, k6, by omega, hy2, by omega⟩
 ·obtain ⟨hn, hy⟩ := (after_h m6).1 hy
  unfold okH
  rw [a1, a3]
  rcases hy with ⟨hp, x, hx, hxn, rfl⟩ | ⟨hy, hno⟩
  ·refine ⟨(m7 x hx).2.1, hn, ?_, fun z hz e => ?_⟩
   ·show x.t + s.p.i + s.p.h <= n + 1048576
    have := m2.2.2.2.2.2; omega
   ·obtain ⟨hz1, hz2⟩ := (after_mem m6).1 hz
    have := blk_one m6 hz1 hx e.1 e.2
    subst this; omega
  ·obtain ⟨k1, k2, k3, k4⟩ := m9 y hy
   exact ⟨k1, hn, by omega, fun z hz => k4 z ((after_mem m6).1 hz).1⟩
end Y
namespace Y
def Good (s : St) (r : An) : Prop := (∃ e, e ≠ 0 /\ r = err s e) \/ (r.2.2.1 = 0 /\ May r.1 /\ s.now <= r.1.now /\ r.1.d = s.d)
theorem Good.no {s : St} {e : Int} (h : e ≠ 0) : Good s (err s e) := .inl ⟨e, h, rfl⟩
theorem give_good {s : St} {sub x : Int} (hm : May s) (hB : E.baseB s.d sub = true) (hq : (cnt s.l sub : Int) < s.p.q) (hp : s.p.pair = true -> E.baseA s.d sub = x) : Good s (give s sub x) := by
 unfold give
 split
 ·exact .no (by decide)
 ·exact .inr ⟨rfl, (give_ok hm hB hq hp rfl (by omega)).2.2, Int.le_refl _, rfl⟩
theorem grant_good {s : St} {sub : Int} (hm : May s) : Good s (grant s sub) := by
 unfold grant
 by_cases h1 : E.baseB s.d sub = false
 ·rw [if_pos h1]; exact .no (by decide)
 rw [if_neg h1]
 by_cases h2 : s.p.q <= cnt s.l sub
 ·rw [if_pos h2]; exact .no (by decide)
 rw [if_neg h2]
 by_cases h3 : s.p.pair = true
 ·rw [if_pos h3]
  split
  ·exact .no (by decide)
  ·split
   ·exact .no (by decide)
   ·exact give_good hm (by simpa using h1) (by omega) (fun _ => rfl)
 ·rw [if_neg h3]
  exact give_good hm (by simpa using h1) (by omega) (fun e => absurd e h3)
theorem get_some {s : St} {a b : Int} {x : L.Ls} (h : get s a b = some x) : x ∈ s.l /\ x.a = a /\ x.b = b := by
 unfold get at h
 have h2 := List.find?_some h
 simp at h2
 exact ⟨List.mem_of_find?_eq_some h, h2⟩
theorem get_none {s : St} {a b : Int} : get s a b = none ↔ ∀ x ∈ s.l, ¬ (x.a = a /\ x.b = b) := by
 unfold get; rw [List.find?_eq_none]; simp
theorem get_of {s : St} {a b : Int} {x : L.Ls} (hs : L.Srt s.l) (hx : x ∈ s.l) (ha : x.a = a) (hb : x.b = b) : get s a b = some x := by
 cases h : get s a b with
 | none => exact absurd ⟨ha, hb⟩ (get_none.1 h x hx)
 | some y =>
  obtain ⟨h1, h2, h3⟩ := get_some h
  rw [blk_one hs h1 hx (by omega) (by omega)]
theorem refresh_good {s : St} {sub a b : Int} (hm : May s) : Good s (refresh s sub a b) := by
 unfold refresh
 cases get s a b with
 | none => exact .no (by decide)
 | some x =>
  simp only
  split
  ·exact .inr ⟨rfl, fresh_may hm, Int.le_refl _, rfl⟩
  ·exact .no (by decide)
theorem release_good {s : St} {sub a b : Int} (hm : May s) : Good s (release s sub a b) := by
 unfold release
 cases h : get s a b with
 | none => exact .no (by decide)
 | some x =>
  simp only
  split
  ·exact .inr ⟨rfl, free1_may hm (get_some h).1, Int.le_refl _, rfl⟩
  ·exact .no (by decide)
theorem tick_good {s : St} {n : Int} (hm : May s) : Good s (tick s n) := by
 unfold tick
 by_cases h : n < s.now \/ 1073741824 < n
 ·rw [if_pos h]; exact .no (by decide)
 ·rw [if_neg h]
  exact .inr ⟨rfl, after_may hm (by omega) (by omega), (by show s.now <= n; omega), (after_keep s n).1⟩
theorem pools_may {s : St} {l : List O.Pl} (hm : May s) (hl : O.May l (E.no s.d)) (h : ∀ x ∈ s.l, 0 <= O.of l x.a) : May { s with ps := l } := by
 obtain ⟨m1, m2, m3, m4, m5, m6, m7, m8, m9⟩ := hm
 exact ⟨m1, m2, hl, m4, m5, m6, fun x hx => okL_of (m7 x hx) rfl rfl rfl (h x hx) (Nat.le_refl _), m8, fun y hy => m9 y hy⟩
theorem pools_good {s : St} {r : List O.Pl × Int} {e : Ev} (hm : May s) (h : r.2 = 0 -> O.May r.1 (E.no s.d) /\ ∀ x ∈ s.l, 0 <= O.of r.1 x.a) : Good s (ofPools s r e) := by
 unfold ofPools
 by_cases h0 : r.2 = 0
 ·rw [if_pos h0]
  exact .inr ⟨rfl, pools_may hm (h h0).1 (h h0).2, Int.le_refl _, rfl⟩
 ·rw [if_neg h0]; exact .no h0
theorem add_good {s : St} {a n : Int} {e : Ev} (hm : May s) : Good s (ofPools s (O.add s.ps (E.no s.d) a n) e) := by
 refine pools_good hm fun h => ?_
 rcases O.add_cases s.ps (E.no s.d) a n with ⟨e, h1, h2, _⟩ | ⟨h1, _, _, h2⟩
 ·rw [h1] at h; exact absurd h h2
 ·rw [h1]
  refine ⟨h2, fun x hx => ?_⟩
  obtain ⟨p, hp, hh⟩ := of_ge.1 (hm.2.2.2.2.2.2.1 x hx).2.2.1
  exact of_ge.2 ⟨p, List.mem_append.2 (.inl hp), hh⟩
theorem mem_set {α : Type} {l : List α} {m : Nat} {x y p : α} (hm : l[m]? = some x) (hp : p ∈ l) : p = x \/ p ∈ l.set m y := by
 obtain ⟨i, hi, rfl⟩ := List.mem_iff_getElem.1 hp
 by_cases h : m = i
 ·subst h
  obtain ⟨_, e⟩ := List.getElem?_eq_some_iff.1 hm
  exact .inl e
 ·exact .inr (List.mem_iff_getElem.2 ⟨i, by rw [List.length_set]; exact hi, by rw [List.getElem_set_ne h]⟩)
theorem set_mem {α : Type} {l : List α} {m : Nat} {y : α} (hm : m < l.length) : y ∈ l.set m y := List.mem_iff_getElem.2 ⟨m, by rw [List.length_set]; exact hm, by simp⟩
theorem drain_good {s : St} {n : Int} {e : Ev} (hm : May s) : Good s (ofPools s (O.drain s.ps (E.no s.d) n) e) := by
 refine pools_good hm fun h => ?_
 rcases O.drain_cases s.ps (E.no s.d) n with ⟨e, h1, h2⟩ | ⟨m, y, _, hml, hy, _, h1, _, h2⟩
 ·rw [h1] at h; exact absurd h h2
 ·rw [h1]
  refine ⟨h2, fun x hx => ?_⟩
  obtain ⟨p, hp, hh⟩ := of_ge.1 (hm.2.2.2.2.2.2.1 x hx).2.2.1
  rcases mem_set (y := { y with s := 1 }) hy hp with rfl | hp2
  ·exact of_ge.2 ⟨_, set_mem hml, hh⟩
  ·exact of_ge.2 ⟨p, hp2, hh⟩
theorem size_good {s : St} {a n : Int} {e : Ev} (hm : May s) : Good s (ofPools s (O.size s.ps (E.no s.d) a n (L.busy s.l)) e) := by
 refine pools_good hm fun h => ?_
 rcases O.size_cases s.ps (E.no s.d) a n (L.busy s.l) with ⟨e, h1, h2⟩ | ⟨m, y, _, hml, hy, h1, hb, _, h2⟩
 ·rw [h1] at h; exact absurd h h2
 ·rw [h1]
  refine ⟨h2, fun x hx => ?_⟩
  obtain ⟨p, hp, hh⟩ := of_ge.1 (hm.2.2.2.2.2.2.1 x hx).2.2.1
  rcases mem_set (y := { y with n := n }) hy hp with rfl | hp2
  ·exact of_ge.2 ⟨_, set_mem hml, hb _ (L.busy_mem.2 ⟨x, hx, rfl⟩) hh⟩
  ·exact of_ge.2 ⟨p, hp2, hh⟩
theorem gone_good {s : St} {n : Int} {e : Ev} (hm : May s) : Good s (ofPools s (O.gone s.ps (E.no s.d) n (L.busy s.l)) e) := by
 refine pools_good hm fun h => ?_
 rcases O.gone_cases s.ps (E.no s.d) n (L.busy s.l) with ⟨e, h1, h2, _⟩ | ⟨m, y, _, hml, hy, _, h1, hb, _, h2⟩
 ·rw [h1] at h; exact absurd h h2
 ·rw [h1]
  refine ⟨h2, fun x hx => ?_⟩
  obtain ⟨p, hp, hh⟩ := of_ge.1 (hm.2.2.2.2.2.2.1 x hx).2.2.1
  refine of_ge.2 ⟨p, ?_, hh⟩
  obtain ⟨i, hi, rfl⟩ := List.mem_iff_getElem.1 hp
  refine List.mem_eraseIdx_iff_getElem.2 ⟨i, hi, fun e => ?_, rfl⟩
  subst e
  obtain ⟨_, e2⟩ := List.getElem?_eq_some_iff.1 hy
  rw [e2] at hh
  rw [hb _ (L.busy_mem.2 ⟨x, hx, rfl⟩)] at hh; cases hh
theorem policy_good {s : St} {p : Po} : Good s (policy s p) := by
 unfold policy
 split
 ·exact .no (by decide)
 ·split
  ·exact .no (by decide)
  ·rename_i h
   exact .inr ⟨rfl, Decidable.of_not_not h, Int.le_refl _, rfl⟩
theorem step_good (s : St) (r : Rq) : Good s (step s r) := by
 unfold step
 by_cases h : ¬ May s \/ r.k < 0 \/ 9 <= r.k
 ·rw [if_pos h]; exact .no (by decide)
 have hm : May s := Decidable.of_not_not fun e => h (.inl e)
 rw [if_neg h]
 split
 ·exact grant_good hm
 split
 ·exact refresh_good hm
 split
 ·exact release_good hm
 split
 ·exact tick_good hm
 split
 ·exact add_good hm
 split
 ·exact drain_good hm
 split
 ·exact size_good hm
 split
 ·exact gone_good hm
 ·exact policy_good
theorem step_ok {s : St} {r : Rq} (h : (step s r).2.2.1 = 0) : May s := by
 unfold step at h
 by_cases h2 : ¬ May s \/ r.k < 0 \/ 9 <= r.k
 ·rw [if_pos h2] at h; cases h
 ·exact Decidable.of_not_not fun e => h2 (.inl e)
theorem step_yes {s : St} {r : Rq} (h : (step s r).2.2.1 = 0) : May s /\ May (step s r).1 /\ s.now <= (step s r).1.now /\ (step s r).1.d = s.d := by
 rcases step_good s r with ⟨e, he, h2⟩ | ⟨_, h2⟩
 ·rw [h2] at h; exact absurd h he
 ·exact ⟨step_ok h, h2⟩
theorem of_len (l : List L.Ls) (sub : Int) : (L.of l sub).length = cnt l sub := by
 unfold L.of cnt
 rw [List.length_map]
 have := congrArg List.length (L.pl_map (fun x : L.T3 => (x.x == sub)) (l.map L.had))
 rw [List.length_map] at this
 rw [this, List.filter_map, List.length_map]
 rfl
theorem of_at {l : List L.Ls} {sub v : Int} {j : Nat} (h : (L.of l sub)[j]? = some v) : ∃ (i : Nat) (x : L.Ls), v = i /\ l[i]? = some x /\ x.s = sub := by
 unfold L.of at h
 have hm := List.mem_of_getElem? h
 obtain ⟨i, hi, rfl⟩ := List.mem_map.1 hm
 rw [L.pl_eq] at hi
 have h2 := (List.mem_filter.1 hi).2
 have hil : i.val < l.length := by have := i.2; simpa using this
 refine ⟨i.val, l[i.val], rfl, List.getElem?_eq_getElem hil, ?_⟩
 simpa [L.had] using h2
end Y
namespace Y
def ord (x y : L.Ls) : Prop := x.t < y.t \/ (x.t = y.t /\ L.Lt x y)
theorem ord_not {x y : L.Ls} (h : ord x y) (k : ord y x) : False := by unfold ord L.Lt at *; omega
theorem ord_self {x : L.Ls} (h : ord x x) : False := ord_not h h
theorem due_min {i n : Int} : ∀ {l : List L.Ls} {x : L.Ls}, L.Srt l -> due i n l = some x -> ∀ y ∈ l, y.t + i <= n -> y = x \/ ord x y
 | [], x, _, h => by simp [due] at h
 | z :: l, x, hs, h => by
  obtain ⟨hz, hs'⟩ := List.pairwise_cons.1 hs
  unfold due at h
  intro y hy hyn
  cases h2 : due i n l with
  | none =>
   rw [h2] at h
   simp only at h
   split at h
   ·cases h
    rcases List.mem_cons.1 hy with rfl | hy
    ·exact .inl rfl
    ·have := due_none.1 h2 y hy; omega
   ·cases h
  | some w =>
   rw [h2] at h
   have h3 := due_min hs' h2
   simp only at h
   split at h
   ·rename_i hc
    cases h
    rcases List.mem_cons.1 hy with rfl | hy
    ·exact .inl rfl
    ·have hl := hz y hy
     have hle : z.t <= y.t := by
      rcases h3 y hy hyn with rfl | h4
      ·exact hc.2
      ·unfold ord at h4; omega
     rcases Int.lt_or_eq_of_le hle with h5 | h5
     ·exact .inr (.inl h5)
     ·exact .inr (.inr ⟨h5, hl⟩)
   ·rename_i hc
    cases h
    rcases List.mem_cons.1 hy with rfl | hy
    ·refine .inr ?_
     unfold ord; omega
    ·exact h3 y hy hyn
theorem due_is {i n : Int} {l : List L.Ls} {x : L.Ls} (hs : L.Srt l) (hx : x ∈ l) (hxn : x.t + i <= n) (h : ∀ y ∈ l, y.t + i <= n -> y = x \/ ord x y) : due i n l = some x := by
 cases h2 : due i n l with
 | none => have := due_none.1 h2 x hx; omega
 | some w =>
  obtain ⟨h3, h4, _⟩ := due_some h2
  rcases due_min hs h2 x hx hxn with rfl | h5
  ·rfl
  ·rcases h w h3 h4 with rfl | h6
   ·rfl
   ·exact (ord_not h5 h6).elim
def freeAll (i : Int) : List L.Ls -> St -> St
 | [], s => s
 | x :: D, s => freeAll i D (free1 s x (x.t + i))
theorem freeAll_snoc (i : Int) (x : L.Ls) : ∀ (D : List L.Ls) (s : St), freeAll i (D ++ [x]) s = free1 (freeAll i D s) x (x.t + i)
 | [], _ => rfl
 | y :: D, s => freeAll_snoc i x D (free1 s y (y.t + i))
theorem freeAll_keep (i : Int) : ∀ (D : List L.Ls) (s : St), (freeAll i D s).d = s.d /\ (freeAll i D s).p = s.p /\ (freeAll i D s).now = s.now /\ (freeAll i D s).ps = s.ps
 | [], _ => ⟨rfl, rfl, rfl, rfl⟩
 | y :: D, s => freeAll_keep i D (free1 s y (y.t + i))
theorem hold_len (h : List L.T3) (x : L.T3) : (L.hold h x).length <= h.length + 1 := by
 have h1 : (L.others h x.a x.b).length <= h.length := List.length_filter_le _ _
 unfold L.hold
 rw [List.length_append, List.length_cons, List.length_take, List.length_drop]
 omega
theorem free1_lens (s : St) (x : L.Ls) (t : Int) : (free1 s x t).l.length <= s.l.length /\ (free1 s x t).h.length <= s.h.length + 1 := by
 refine ⟨L.del_len _ _ _, ?_⟩
 unfold free1
 show (if 0 < s.p.h then _ else _ : List L.T3).length <= _
 split
 ·exact hold_len _ _
 ·omega
theorem freeAll_lens (i : Int) : ∀ (D : List L.Ls) (s : St), (freeAll i D s).l.length <= s.l.length /\ (freeAll i D s).h.length <= s.h.length + D.length
 | [], _ => ⟨Nat.le_refl _, Nat.le_refl _⟩
 | y :: D, s => by
  have h1 := freeAll_lens i D (free1 s y (y.t + i))
  have h2 := free1_lens s y (y.t + i)
  refine ⟨Nat.le_trans h1.1 h2.1, ?_⟩
  have := h1.2
  rw [List.length_cons]
  show (freeAll i D (free1 s y (y.t + i))).h.length <= _
  omega
theorem run_all {n : Int} : ∀ {D : List L.Ls} {f : Nat} {s : St}, L.Srt s.l -> s.l.length <= f -> D.Pairwise ord -> (∀ x, x ∈ D ↔ x ∈ s.l /\ x.t + s.p.i <= n) ->
  run n f s = (freeAll s.p.i D s, D.map fun x => evF x (x.t + s.p.i))
 | [], f, s, hs, hf, hD, hm => by
  have h : due s.p.i n s.l = none := due_none.2 fun x hx => by
   have := (hm x).2
   by_cases e : x.t + s.p.i <= n
   ·exact absurd (this ⟨hx, e⟩) (by simp)
   ·omega
  rw [run_none h]; rfl
 | x :: D, f, s, hs, hf, hD, hm => by
  obtain ⟨h1, h2⟩ := (hm x).1 (by simp)
  obtain ⟨hxD, hD'⟩ := List.pairwise_cons.1 hD
  have hd : due s.p.i n s.l = some x := due_is hs h1 h2 fun y hy hyn => by
   rcases List.mem_cons.1 ((hm y).2 ⟨hy, hyn⟩) with rfl | e
   ·exact .inl rfl
   ·exact .inr (hxD y e)
  have hl := free1_len (t := x.t + s.p.i) h1
  cases f with
  | zero => omega
  | succ f =>
   rw [run_some hd, run_all (D := D) (f := f) (s := free1 s x (x.t + s.p.i)) (free1_srt hs) (by omega) hD' (fun y => ?_)]
   ·rfl
   ·show y ∈ D ↔ y ∈ (L.del s.l x.a x.b).1 /\ y.t + s.p.i <= n
    rw [del_mem hs h1]
    constructor
    ·intro hy
     have := (hm y).1 (by simp [hy])
     exact ⟨⟨this.1, fun e => by subst e; exact ord_self (hxD _ hy)⟩, this.2⟩
    ·rintro ⟨⟨h3, h4⟩, h5⟩
     rcases List.mem_cons.1 ((hm y).2 ⟨h3, h5⟩) with e | e
     ·exact absurd e h4
     ·exact e
theorem set_fresh {s : St} {i : Nat} {x : L.Ls} (hs : L.Srt s.l) (hi : s.l[i]? = some x) : s.l.set i { x with t := s.now } = s.l.map (fresh s x.a x.b) := by
 obtain ⟨hil, hie⟩ := List.getElem?_eq_some_iff.1 hi
 apply List.ext_getElem
 ·simp
 ·intro j h1 h2
  rw [List.getElem_set, List.getElem_map]
  rw [List.length_set] at h1
  by_cases e : i = j
  ·subst e
   rw [if_pos rfl, hie]
   unfold fresh; rw [if_pos ⟨rfl, rfl⟩]
  ·rw [if_neg e]
   unfold fresh
   rw [if_neg]
   rintro ⟨e1, e2⟩
   rcases Nat.lt_or_gt_of_ne e with h | h
   ·have := List.pairwise_iff_getElem.1 hs i j hil h1 h
    rw [hie] at this; unfold L.Lt at this; omega
   ·have := List.pairwise_iff_getElem.1 hs j i h1 hil h
    rw [hie] at this; unfold L.Lt at this; omega
theorem refresh_is {s : St} {sub : Int} {i : Nat} {x : L.Ls} (hs : L.Srt s.l) (hi : s.l[i]? = some x) (hx : x.s = sub) : refresh s sub x.a x.b = ({ s with l := s.l.set i { x with t := s.now } }, [], 0, x.a, x.b) := by
 unfold refresh
 rw [get_of hs (List.mem_of_getElem? hi) rfl rfl]
 simp only
 rw [if_pos hx, set_fresh hs hi]; rfl
theorem release_is {s : St} {sub : Int} {i : Nat} {x : L.Ls} (hs : L.Srt s.l) (hi : s.l[i]? = some x) (hx : x.s = sub) : release s sub x.a x.b = (free1 s x s.now, [evF x s.now], 0, x.a, x.b) := by
 unfold release
 rw [get_of hs (List.mem_of_getElem? hi) rfl rfl]
 simp only
 rw [if_pos hx]
theorem use_no {s : St} {sub a b : Int} (hs : L.Srt s.l) (h : L.find s.l a b = -1 \/ ∃ (i : Nat) (x : L.Ls), s.l[i]? = some x /\ x.a = a /\ x.b = b /\ x.s ≠ sub) : refresh s sub a b = err s 5 /\ release s sub a b = err s 5 := by
 unfold refresh release
 rcases h with h | ⟨i, x, hi, ha, hb, hx⟩
 ·rw [get_none.2 (L.find_none.1 h)]; exact ⟨rfl, rfl⟩
 ·rw [get_of hs (List.mem_of_getElem? hi) ha hb]
  simp only
  rw [if_neg hx, if_neg hx]; exact ⟨rfl, rfl⟩
theorem first_ge (n u : Int) : -1 <= U.first n u := by
 unfold U.first
 cases h : U.free n u with
 | nil => simp
 | cons p l =>
  have h2 : p ∈ U.free n u := by rw [h]; simp
  unfold U.free at h2
  obtain ⟨q, _, hq⟩ := List.mem_filterMap.1 h2
  split at hq
  ·cases hq
  ·cases hq; show -1 <= ((q.1 : Nat) : Int); omega
theorem block_ge (s : St) (x : Int) : -1 <= block s x := by
 unfold block
 split
 ·exact first_ge _ _
 ·omega
theorem block_out {s : St} {x : Int} (hm : May s) (h : ¬ (0 <= x /\ x < E.no s.d)) : block s x = -1 := by
 have h1 := block_ge s x
 by_cases h2 : 0 <= block s x
 ·exact absurd (of_in hm.2.2.1 (gives_of (block_ok hm.1 rfl h2).1)) h
 ·omega
theorem least_is {s : St} {j : Nat} (h : ∀ i : Nat, i < j -> block s i = -1) (h2 : 0 <= block s j) (hj : j < 4) : least s = j := by
 unfold least
 have hz : ∀ i : Nat, i < j -> ¬ 0 <= block s i := fun i hi => by rw [h i hi]; decide
 match j, hj, h2, hz with
 | 0, _, h2, _ =>
  have h2 : 0 <= block s 0 := h2
  rw [if_pos h2]; rfl
 | 1, _, h2, hz =>
  have h2 : 0 <= block s 1 := h2
  have z0 : ¬ 0 <= block s 0 := hz 0 (by omega)
  rw [if_neg z0, if_pos h2]; rfl
 | 2, _, h2, hz =>
  have h2 : 0 <= block s 2 := h2
  have z0 : ¬ 0 <= block s 0 := hz 0 (by omega)
  have z1 : ¬ 0 <= block s 1 := hz 1 (by omega)
  rw [if_neg z0, if_neg z1, if_pos h2]; rfl
 | 3, _, h2, hz =>
  have h2 : 0 <= block s 3 := h2
  have z0 : ¬ 0 <= block s 0 := hz 0 (by omega)
  have z1 : ¬ 0 <= block s 1 := hz 1 (by omega)
  have z2 : ¬ 0 <= block s 2 := hz 2 (by omega)
  rw [if_neg z0, if_neg z1, if_neg z2, if_pos h2]; rfl
theorem least_no {s : St} (h : ∀ i : Nat, i < 4 -> block s i = -1) : least s = 4 := by
 unfold least
 have h0 := h 0 (by omega)
 have h1 := h 1 (by omega)
 have h2 := h 2 (by omega)
 have h3 := h 3 (by omega)
 simp at h0 h1 h2 h3
 rw [if_neg (by omega), if_neg (by omega), if_neg (by omega), if_neg (by omega)]
theorem SrtH.snoc {l : List L.T3} {j : Nat} {x y : L.T3} (h : SrtH (l.take (j + 1))) (hx : l[j]? = some x) (hy : l[j + 1]? = some y) (hl : LtH x y) : SrtH (l.take (j + 1 + 1)) := by
 obtain ⟨l1, e1⟩ := List.getElem?_eq_some_iff.1 hy
 obtain ⟨l0, e0⟩ := List.getElem?_eq_some_iff.1 hx
 unfold SrtH at *
 rw [List.take_succ_eq_append_getElem l1, List.pairwise_append]
 refine ⟨h, by simp, fun z hz u hu => ?_⟩
 obtain rfl : u = y := by rw [<- e1]; simpa using hu
 rw [List.take_succ_eq_append_getElem l0, List.pairwise_append] at h
 rw [List.take_succ_eq_append_getElem l0] at hz
 rcases List.mem_append.1 hz with hz | hz
 ·have := h.2.2 z hz x (by rw [<- e0]; simp)
  unfold LtH at *; omega
 ·have : z = x := by rw [<- e0]; simpa using hz
  rw [this]; exact hl
theorem SrtH.one (l : List L.T3) : SrtH (l.take 1) := by
 unfold SrtH; cases l <;> simp
theorem SrtH.no {l : List L.T3} {j : Nat} {x y : L.T3} (hx : l[j]? = some x) (hy : l[j + 1]? = some y) (hl : ¬ LtH x y) : ¬ SrtH l := by
 intro h
 obtain ⟨l1, e1⟩ := List.getElem?_eq_some_iff.1 hy
 obtain ⟨l0, e0⟩ := List.getElem?_eq_some_iff.1 hx
 have := List.pairwise_iff_getElem.1 h j (j + 1) l0 l1 (by omega)
 rw [e0, e1] at this
 exact hl this
theorem held_len {s : St} (hm : May s) : s.h.length <= 32 := by
 obtain ⟨hfit, _, _, _, _, _, _, hs, hl⟩ := hm
 have hno := (E.fits_iff.1 hfit).no
 have hnb := nb_in hfit
 have hk : ∀ {u v : Int}, E.blkB s.d u v = true -> 0 <= u /\ u < 4 /\ 0 <= v /\ v < 8 := fun h => by have := blkB_in h; omega
 have := inc_len (l := s.h.map fun x => x.a * 8 + x.b) (a := 0) (b := 32)
  (by
   rw [List.pairwise_map]
   refine List.Pairwise.imp_of_mem (R := LtH) (fun {x y} hx hy h => ?_) hs
   have e1 := hk (hl x hx).1
   have e2 := hk (hl y hy).1
   unfold LtH at h; omega)
  (fun z hz => by
   obtain ⟨x, hx, rfl⟩ := List.mem_map.1 hz
   have := hk (hl x hx).1; omega)
  (by omega)
 rw [List.length_map] at this
 omega
theorem sm_of {l : List O.Pl} {out : Int} (h : O.May l out) : O.Sm l := fun x hx => by
 have := O.fits_iff.1 (h.2.2.2.1 x hx)
 have := h.2.1
 omega
end Y
end Go.Proofs.YtonejangijkdmaaGreat
