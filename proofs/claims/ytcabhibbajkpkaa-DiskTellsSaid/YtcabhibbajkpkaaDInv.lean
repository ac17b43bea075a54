/-
  What holds between two files of a crash, and what keeps it.
-/
import Derived.Test.YtcabhibbajkpkaaDPick
import Derived.Test.YtcabhibbajkpkaaDWith
namespace Go.Proofs.Ytcabhibbajkpkaa
open Go.RowKit

theorem blok_ne {w : World} {g h : Nat} {t u : TypeId} {cs ds : Array Value} (h1 : Blok w g t cs) (h2 : Blok w h u ds) (ht : t ≠ u) : g ≠ h := by
  rintro rfl
  have := (show w.heap[g]? = _ from h1).symm.trans h2
  simp at this
  exact ht this.2
theorem own_blok {w : World} {B e size n : Nat} {v : Value} {xs : List Value} (h : w.ownsRow B e size v n xs) {g : Nat} (hg : v.ownBlock = some g) : ∃ cs, Blok w g e cs := by
  rcases h.2 with ⟨rfl, _⟩ | ⟨g', cap, cur, rfl, _, hh, _⟩
  · cases hg
  · have : g' = g := by simpa [Value.ownBlock] using hg
    subst this
    exact ⟨cur, hh⟩

/-- A file that a crash has done with: its bytes lie in a block of bytes of the call's own, ahead of those of the files behind. -/
def Gone (B : Nat) (w : World) (rest : List FP) (z : FP) : Prop :=
  FP.ok w z ∧ (z.a = none ∨ ∃ g cs, z.a = some ⟨g, 0, none⟩ ∧ B ≤ g ∧ Blok w g 5 cs ∧ ∀ y ∈ rest, ∀ h, y.a = some h → g < h.block)
theorem Own1.blok {B : Nat} {w : World} {x : FP} (h : Own1 B w x) : x.a = none ∨ ∃ g cs, x.a = some ⟨g, 0, none⟩ ∧ B ≤ g ∧ Blok w g 5 cs := by
  rcases h.1.2 with ⟨he, _⟩ | ⟨g, cap, cur, he, hb, hg, _⟩
  · simp only [Value.slice.injEq] at he; exact .inl he.1
  · simp only [Value.slice.injEq] at he; exact .inr ⟨g, cur, he.1, hb, hg⟩
theorem Gone.grown {B : Nat} {w w' : World} {rest rest' : List FP} {z : FP} {row : Nat} (h : Gone B w rest z) (hg : w.grownBy w' (some row)) (hr : ∀ y ∈ rest', y ∈ rest) (hne : ∀ g cs, z.a = some ⟨g, 0, none⟩ → Blok w g 5 cs → (∀ y ∈ rest, ∀ h, y.a = some h → g < h.block) → g ≠ row) : Gone B w' rest' z := by
  rcases h.2 with h0 | ⟨g, cs, h1, h2, h3, h4⟩
  · have hn : z.B = [] := by
      have := h.1.2.2 h0
      exact List.eq_nil_of_length_eq_zero (by rw [h.1.1]; exact this.1)
    exact ⟨⟨h.1.1, ⟨h.1.2.1.1, h.1.2.1.2.1, .inl hn⟩, h.1.2.2⟩, .inl h0⟩
  · have hn := hne g cs h1 h3 h4
    refine ⟨⟨h.1.1, ⟨h.1.2.1.1, h.1.2.1.2.1, ?_⟩, h.1.2.2⟩, .inr ⟨g, cs, h1, h2, h3.grown hg (by simpa using hn), fun y hy => h4 y (hr y hy)⟩⟩
    rcases h.1.2.1.2.2 with h5 | ⟨b, off, h6, h7, h8⟩
    · exact .inl h5
    · rw [h1] at h6
      cases h6
      exact .inr ⟨g, 0, h1, Nat.lt_of_lt_of_le h7 hg.size, fun i hi => by
        rw [← h8 i hi]
        unfold World.cell?
        rw [hg.block g h7 (by simpa using hn)]⟩
theorem Gone.below {B : Nat} {w w' : World} {rest : List FP} {z : FP} (h : Gone B w rest z) (hb : Below w.heap.size w w') : Gone B w' rest z := by
  refine ⟨h.1.below hb, ?_⟩
  rcases h.2 with h0 | ⟨g, cs, h1, h2, h3, h4⟩
  · exact .inl h0
  · exact .inr ⟨g, cs, h1, h2, h3.on hb, h4⟩
theorem PickAt.grown {w w' : World} {g0 g1 i : Nat} {a : Option Addr} {n c : Nat} {ps : List Int} {row : Nat} (h : PickAt w g0 g1 i a n c ps) (hg : w.grownBy w' (some row)) (h0 : g0 ≠ row) (h1 : g1 ≠ row) (h2 : ∀ b off, a = some ⟨b, off, none⟩ → ps ≠ [] → b ≠ row) : PickAt w' g0 g1 i a n c ps := by
  refine ⟨h.ne, h.at_.grown hg (by simpa using h0), h.list.grown hg (by simpa using h1), h.len, ⟨h.row.1, h.row.2.1, ?_⟩, h.le, h.far⟩
  by_cases hp : ps = []
  · exact .inl hp
  rcases h.row.2.2 with h3 | ⟨b, off, h4, h5, h6⟩
  · exact .inl h3
  · exact .inr ⟨b, off, h4, Nat.lt_of_lt_of_le h5 hg.size, fun j hj => by
      rw [← h6 j hj]
      unfold World.cell?
      rw [hg.block b h5 (by simpa using h2 b off h4 hp)]⟩

/-- Between two files: those done (zs), what the row of files holds (rs), what is left of the picks. -/
structure CInv (w : World) (B lb rb : Nat) (k : Int) (a1 : Option Addr) (n1 c1 : Nat) (ys : List FP) (g0 g1 : Nat) (ap : Option Addr) (np cp : Nat) (ps : List Int) (j : Nat) (zs rs : List FP) (i : Nat) (wr : World) : Prop where
  row : wr.ownsRow B 43 3 (.slice a1 n1 c1) n1 (FP.flat rs)
  gone : ∀ z ∈ zs, Gone B wr (ys.drop j) z
  own : ∀ y ∈ ys.drop j, Own1 B wr y
  pick : PickAt wr g0 g1 i ap np cp ps
  lbox : Blok wr lb 24 #[.int .i64 k, .slice a1 n1 c1]
  rbox : Blok wr rb 24 #[.int .i64 0, .slice none 0 0]
  below : Below w.heap.size w wr
  base : w.heap.size ≤ B
  args : ∀ b off, ap = some ⟨b, off, none⟩ → ps ≠ [] → b < B
  g0B : B ≤ g0
section
variable {w : World} {B lb rb : Nat} {k : Int} {a1 : Option Addr} {n1 c1 : Nat} {ys : List FP} {g0 g1 : Nat} {ap : Option Addr} {np cp : Nat} {ps : List Int} {j : Nat} {zs rs : List FP} {i : Nat} {wr w' : World}
theorem CInv.on (h : CInv w B lb rb k a1 n1 c1 ys g0 g1 ap np cp ps j zs rs i wr) (hb : Below wr.heap.size wr w') : CInv w B lb rb k a1 n1 c1 ys g0 g1 ap np cp ps j zs rs i w' :=
  ⟨ownsRow_below h.row hb, fun z hz => (h.gone z hz).below hb, fun y hy => (h.own y hy).below hb, h.pick.on hb, h.lbox.on hb, h.rbox.on hb, h.below.trans (hb.mono h.below.size), h.base, h.args, h.g0B⟩
theorem CInv.picked (h : CInv w B lb rb k a1 n1 c1 ys g0 g1 ap np cp ps j zs rs i wr) (hg : wr.grownBy w' (some g0)) {i' : Nat} (hp : PickAt w' g0 g1 i' ap np cp ps) : CInv w B lb rb k a1 n1 c1 ys g0 g1 ap np cp ps j zs rs i' w' := by
  refine ⟨h.row.kept hg ?_, fun z hz => (h.gone z hz).grown hg (fun y hy => hy) (fun g cs _ hb _ => blok_ne hb h.pick.at_ (by decide)), fun y hy => (h.own y hy).grown hg (fun g hh e => ?_), hp, h.lbox.grown hg ?_, h.rbox.grown hg ?_, h.below.grown hg h.below.size (fun q hq => by cases hq; have := h.g0B; have := h.base; omega), h.base, h.args, h.g0B⟩
  · cases ha : (Value.slice a1 n1 c1).ownBlock with
    | none => exact .inl rfl
    | some g =>
      refine .inr fun e => ?_
      obtain ⟨cs, hcs⟩ := own_blok h.row ha
      exact blok_ne hcs h.pick.at_ (by decide) (by simpa using e)
  · obtain ⟨cs, hcs⟩ := own_blok (h.own y hy).1 (g := g.block) (by rw [hh]; rfl)
    exact blok_ne hcs h.pick.at_ (by decide) (by simpa using e)
  · intro e; exact blok_ne h.lbox h.pick.at_ (by decide) (by simpa using e)
  · intro e; exact blok_ne h.rbox h.pick.at_ (by decide) (by simpa using e)
/-- The row of files is turned. -/
theorem CInv.rowset (h : CInv w B lb rb k a1 n1 c1 ys g0 g1 ap np cp ps j zs rs i wr) {g : Nat} (ha : a1 = some ⟨g, 0, none⟩) (hg : wr.grownBy w' (some g)) {rs' : List FP} (hr : w'.ownsRow B 43 3 (.slice a1 n1 c1) n1 (FP.flat rs')) : CInv w B lb rb k a1 n1 c1 ys g0 g1 ap np cp ps j zs rs' i w' := by
  obtain ⟨ds, hds⟩ := own_blok h.row (g := g) (by rw [ha]; rfl)
  have hBg := (h.row.lt g (by rw [ha]; rfl)).1
  refine ⟨hr, fun z hz => (h.gone z hz).grown hg (fun y hy => hy) (fun q cs _ hb _ => blok_ne hb hds (by decide)), fun y hy => (h.own y hy).grown hg (fun q hh e => ?_), h.pick.grown hg (blok_ne h.pick.at_ hds (by decide)) (blok_ne h.pick.list hds (by decide)) (fun b off h1 h2 => by have := h.args b off h1 h2; omega), h.lbox.grown hg ?_, h.rbox.grown hg ?_, h.below.grown hg h.below.size (fun q hq => by cases hq; have := h.base; omega), h.base, h.args, h.g0B⟩
  · obtain ⟨cs, hcs⟩ := own_blok (h.own y hy).1 (g := q.block) (by rw [hh]; rfl)
    exact blok_ne hcs hds (by decide) (by simpa using e)
  · intro e; exact blok_ne h.lbox hds (by decide) (by simpa using e)
  · intro e; exact blok_ne h.rbox hds (by decide) (by simpa using e)
theorem drop_cons {ys : List FP} {j : Nat} {y : FP} (hy : ys[j]? = some y) : ys.drop j = y :: ys.drop (j + 1) := by
  obtain ⟨h1, h2⟩ := List.getElem?_eq_some_iff.1 hy
  rw [List.drop_eq_getElem_cons h1, h2]
theorem apart_at {ys : List FP} {j : Nat} {y : FP} (h : Apart ys) (hy : ys[j]? = some y) : ∀ x ∈ ys.drop (j + 1), ∀ g q, y.a = some g → x.a = some q → g.block < q.block := by
  have h1 : (ys.drop j).Pairwise _ := List.Pairwise.drop (i := j) h
  rw [drop_cons hy] at h1
  exact fun x hx g q hg hq => (List.pairwise_cons.1 h1).1 x hx g q hg hq
/-- A file of which all is sure. -/
theorem CInv.same (h : CInv w B lb rb k a1 n1 c1 ys g0 g1 ap np cp ps j zs (zs ++ ys.drop j) i wr) (hA : Apart ys) {y : FP} (hy : ys[j]? = some y) : CInv w B lb rb k a1 n1 c1 ys g0 g1 ap np cp ps (j + 1) (zs ++ [y]) ((zs ++ [y]) ++ ys.drop (j + 1)) i wr := by
  have hd := drop_cons hy
  have hO := h.own y (by rw [hd]; simp)
  refine ⟨by rw [List.append_assoc, List.singleton_append, ← hd]; exact h.row, fun z hz => ?_, fun x hx => h.own x (by rw [hd]; simp [hx]), h.pick, h.lbox, h.rbox, h.below, h.base, h.args, h.g0B⟩
  rcases List.mem_append.1 hz with hz | hz
  · obtain ⟨h1, h2⟩ := h.gone z hz
    refine ⟨h1, ?_⟩
    rcases h2 with h2 | ⟨g, cs, h3, h4, h5, h6⟩
    · exact .inl h2
    · exact .inr ⟨g, cs, h3, h4, h5, fun x hx => h6 x (by rw [hd]; simp [hx])⟩
  · simp only [List.mem_singleton] at hz
    subst hz
    refine ⟨hO.ok, ?_⟩
    rcases hO.blok with h2 | ⟨g, cs, h3, h4, h5⟩
    · exact .inl h2
    · exact .inr ⟨g, cs, h3, h4, h5, fun x hx q hq => apart_at hA hy x hx _ q h3 hq⟩
/-- A file's bytes are turned. -/
theorem CInv.bytes {z : FP} (h : CInv w B lb rb k a1 n1 c1 ys g0 g1 ap np cp ps j zs (zs ++ z :: ys.drop (j + 1)) i wr) (hA : Apart ys) {y : FP} (hy : ys[j]? = some y) {gy : Nat} (hya : y.a = some ⟨gy, 0, none⟩) (hza : z.a = some ⟨gy, 0, none⟩) (hg : wr.grownBy w' (some gy)) (hz : FP.ok w' z) {cs : Array Value} (hb : Blok w' gy 5 cs) : CInv w B lb rb k a1 n1 c1 ys g0 g1 ap np cp ps (j + 1) (zs ++ [z]) ((zs ++ [z]) ++ ys.drop (j + 1)) i w' := by
  have hd := drop_cons hy
  have hO := h.own y (by rw [hd]; simp)
  obtain ⟨ds, hds⟩ := own_blok hO.1 (g := gy) (by rw [hya]; rfl)
  have hBg := (hO.lt hya).1
  have hap := apart_at hA hy
  refine ⟨?_, fun x hx => ?_, fun x hx => (h.own x (by rw [hd]; simp [hx])).grown hg (fun q hq e => ?_), h.pick.grown hg (blok_ne h.pick.at_ hds (by decide)) (blok_ne h.pick.list hds (by decide)) (fun b off h1 h2 => by have := h.args b off h1 h2; simp only at hBg; omega), h.lbox.grown hg ?_, h.rbox.grown hg ?_, h.below.grown hg h.below.size (fun q hq => by cases hq; have := h.base; simp only at hBg; omega), h.base, h.args, h.g0B⟩
  · rw [List.append_assoc, List.singleton_append]
    refine h.row.kept hg ?_
    cases ha : (Value.slice a1 n1 c1).ownBlock with
    | none => exact .inl rfl
    | some g =>
      refine .inr fun e => ?_
      obtain ⟨cs, hcs⟩ := own_blok h.row ha
      exact blok_ne hcs hds (by decide) (by simpa using e)
  · rcases List.mem_append.1 hx with hx | hx
    · exact (h.gone x hx).grown hg (fun y hy => by rw [hd]; simp [hy]) (fun g cs _ _ h4 => by have h5 := h4 y (by rw [hd]; simp) _ hya; simp only at h5; omega)
    · simp only [List.mem_singleton] at hx
      subst hx
      exact ⟨hz, .inr ⟨gy, cs, hza, hBg, hb, fun x hx q hq => hap x hx _ q hya hq⟩⟩
  · have h1 := hap x hx _ q hya hq
    have h2 : q.block = gy := by simpa using e
    simp only at h1
    omega
  · intro e; exact blok_ne h.lbox hds (by decide) (by simpa using e)
  · intro e; exact blok_ne h.rbox hds (by decide) (by simpa using e)
end

theorem FP.flat_set3 (zs : List FP) (x y : FP) (r : List FP) : (((FP.flat (zs ++ x :: r)).set (zs.length * 3) (.int .i64 y.no)).set (zs.length * 3 + 1) (.slice y.a y.n y.c)).set (zs.length * 3 + 2) (.int .i64 y.s) = FP.flat (zs ++ y :: r) := by
  have e0 : zs.length * 3 - zs.length * 3 = 0 := by omega
  have e1 : zs.length * 3 + 1 - zs.length * 3 = 1 := by omega
  have e2 : zs.length * 3 + 2 - zs.length * 3 = 2 := by omega
  rw [FP.flat_append, FP.flat_append, List.set_append_right _ _ (by rw [FP.flat_len]; omega), List.set_append_right _ _ (by rw [FP.flat_len]; omega), List.set_append_right _ _ (by rw [FP.flat_len]; omega), FP.flat_len, e0, e1, e2]
  rfl
theorem grown_two {w w1 w2 : World} {r : Nat} (h1 : w.grownBy w1 (some r)) (h2 : w1.grownBy w2 (some r)) : w.grownBy w2 (some r) :=
  ⟨h2.os.trans h1.os, h2.tape.trans h1.tape, h2.output.trans h1.output, Nat.le_trans h1.size h2.size, fun k hk hne => (h2.block k (Nat.lt_of_lt_of_le hk h1.size) hne).trans (h1.block k hk hne)⟩
/-- Bytes, torn from a place on up to another one. -/
def D.tearing (L : List Int) (m E : Nat) : List Int := L.mapIdx fun i c => if m ≤ i ∧ i < E then D.tear c else c
theorem D.tearing_none (L : List Int) (E : Nat) : D.tearing L E E = L := by
  apply List.ext_getElem?
  intro i
  rw [D.tearing, List.getElem?_mapIdx]
  cases L[i]? with
  | none => rfl
  | some c => simp; intro h1 h2; omega
theorem D.tearing_len (L : List Int) (m E : Nat) : (D.tearing L m E).length = L.length := by simp [D.tearing]
theorem D.tearing_step {L : List Int} {m E : Nat} (hE : E ≤ L.length) (hm : m < E) : D.tearing L m E = (D.tearing L (m + 1) E).set m (D.tear (L.getD m 0)) := by
  apply List.ext_getElem?
  intro i
  rw [List.getElem?_set, D.tearing, D.tearing, List.getElem?_mapIdx, List.getElem?_mapIdx]
  by_cases hi : m = i
  · subst hi
    have : m < L.length := by omega
    simp [this, hm]
  · cases h : L[i]? with
    | none => simp [hi]
    | some c =>
      simp only [Option.map_some, hi, if_false]
      congr 1
      by_cases h1 : m + 1 ≤ i ∧ i < E
      · rw [if_pos ⟨by omega, h1.2⟩, if_pos h1]
      · rw [if_neg (by omega), if_neg h1]
theorem D.tearing_at {L : List Int} {m E : Nat} (hm : m < L.length) : (D.tearing L (m + 1) E).getD m 0 = L.getD m 0 := by
  simp [D.tearing, hm]
  intro h1 _
  omega
/-- What is left, torn: up to where the tearing stops. -/
theorem D.tearing_torn {L : List Int} {s m E : Nat} (hE : E ≤ L.length) (h1 : s ≤ m) (h3 : m = E ∨ E ≤ m + 8) (h4 : m = s ∨ m + 8 ≤ E) (hs : s ≤ E) : (D.tearing L m E).take E = D.torn (L.take E) s := by
  apply List.ext_getElem?
  intro i
  rw [List.getElem?_take, D.tearing, D.torn, List.getElem?_mapIdx, List.getElem?_mapIdx, List.getElem?_take]
  have hl : (L.take E).length = E := by simp; omega
  rw [hl]
  by_cases hi : i < E
  · rw [if_pos hi, if_pos hi]
    cases L[i]? with
    | none => rfl
    | some c =>
      simp only [Option.map_some]
      congr 1
      by_cases h5 : m ≤ i ∧ i < E
      · rw [if_pos h5, if_pos ⟨by omega, by omega⟩]
      · rw [if_neg h5, if_neg (by omega)]
  · rw [if_neg hi, if_neg hi]; rfl
end Go.Proofs.Ytcabhibbajkpkaa
