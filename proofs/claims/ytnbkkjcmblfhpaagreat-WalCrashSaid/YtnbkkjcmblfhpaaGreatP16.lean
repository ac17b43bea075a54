import Derived.RangeFuncNested
import Derived.Test.YtnbkkjcmblfhpaaGreatP0
import Derived.Test.YtnbkkjcmblfhpaaGreatP6
import Derived.Test.YtnbkkjcmblfhpaaGreatP15
import Derived.Test.YtnbkkjcmblfhpaaGreatP7
import Derived.Test.YtnbkkjcmblfhpaaGreatP13
namespace Go.Proofs.YtnbkkjcmblfhpaaGreat
open Go.RowKit
def zqn {α : Type} (F : Fence) (n : Nat) (P : Program) (g : Nat) (lb : Array Value) (encs : α -> Array Value) (G : List α -> α -> Prop) (Kp : World -> World -> Prop) (S : List α -> Prop) (w : World) : Prop :=
 ∀ (l : Nat) (J Jx : List α -> World -> Prop) (W : World), Below w.heap.size w W -> AbidesFrom W.heap.size J -> AbidesFrom W.heap.size Jx ->
  (∀ pre x W1, J pre W1 -> G pre x -> YieldAt F (n - 1) P l (encs x) W1 fun e W' => (e = .returned (.bool true) /\ J (pre ++ [x]) W' /\ Kp W1 W') \/ (e = .returned (.bool false) /\ Jx (pre ++ [x]) W')) ->
  J [] W -> CallsIn F n P g (#[.func (.yield l) #[] #[]] ++ lb) W fun e W' => (∃ v, e = .returned v) /\ ((∃ xs, S xs /\ J xs W') \/ (∃ pre, Jx pre W'))
def zpg (D : Nat) (r : LoopState -> Option Code -> Loop) (st : LoopState) (c : Option Code) (W : World) : Prop := W.heap[D + 1]? = some (.loop (r st c)) /\ W.heap[D]? = some (.deferred (some []))
theorem zpg.from {D : Nat} {r : LoopState -> Option Code -> Loop} {st : LoopState} {c : Option Code} {W W' : World} (h : zpg D r st c W) (hk : KeepsFrom D W W') : zpg D r st c W' := ⟨hk.same _ _ (by omega) h.1 rfl, hk.same _ _ (Nat.le_refl _) h.2 rfl⟩
theorem zpg.turn {D : Nat} {r : LoopState -> Option Code -> Loop} {st : LoopState} {c : Option Code} {W : World} (h : zpg D r st c W) (st' : LoopState) (c' : Option Code) : zpg D r st' c' (W.putObj (D + 1) (.loop (r st' c'))) :=
 ⟨World.putObj_heap_same (Array.getElem?_eq_some_iff.1 h.1).1, (World.putObj_heap_other (by omega)).trans h.2⟩
def ztp {α : Type} (H : Nat) (Kp : World -> World -> Prop) (I : List α -> World -> Prop) (Ix : Code -> List α -> World -> Prop) (xs : List α) (W : World) : Exit -> Act -> World -> Prop
 | .normal, _, W' => KeepsFrom H W W' /\ Kp W W' /\ I xs W'
 | .exit i, _, W' => KeepsFrom H W W' /\ Ix (.exit i) xs W'
 | _, _, _ => False
theorem zop {F : Fence} {n : Nat} {P : Program} {α : Type} {g : Operand} {ps : Array Tmp} {assign body : Code} {Q : Exit -> Act -> World -> Prop} {a : Act} {w : World}
  (hro : F.round = none) (h1 : 1 <= n) {gf : Nat} {lb : Array Value} (hg : a.eval g = .func (.func gf) #[] lb) (hFg : F.fn gf) (eg : ∀ args w, (callFunc gf args).run P w = .ok (.enter gf args) w)
  {encs : α -> Array Value} {G : List α -> α -> Prop} {Kp : World -> World -> Prop} {S : List α -> Prop} {w0 : World} (hseq : zqn F (n - 1) P gf lb encs G Kp S w0) (hb0 : Below w0.heap.size w0 w) (hps : ∀ x, (encs x).size = ps.size)
  (hKt : ∀ {X Y Z : World}, Kp X Y -> Kp Y Z -> Kp X Z) (hKb : ∀ (W : World) (l : Nat) (o o' : Obj), w.heap.size <= l -> W.heap[l]? = some o -> o.isCells = false -> o.isWalk = false -> Kp W (W.putObj l o'))
  (I : List α -> World -> Prop) (Ix : Code -> List α -> World -> Prop) (hI : OwnFrom w.heap.size I) (hIx : ∀ c, OwnFrom w.heap.size (Ix c)) (h0 : I [] w) (a₁ : α -> Act)
  (hassign : ∀ (l : Nat) (x : α) (W : World) (K : Act -> World -> Prop), K (a₁ x) W ->
   assign.wpIn (F.inRound l) (n - 1 - 1) P (Exit.then K (fun _ _ _ => False)) { tmps := (ps.zip (encs x)).foldl (fun t (p, v) => t.setIfInBounds p v) a.tmps, defers := [] } W)
  (hbody : ∀ (l : Nat) (pre : List α) (x : α) (W : World), I pre W -> G pre x -> body.wpIn (F.inRound l) (n - 1 - 1) P (ztp w.heap.size Kp I Ix (pre ++ [x]) W) (a₁ x) W)
  (hdone : ∀ (D : Nat) (xs : List α) (W : World), w.heap.size <= D -> S xs -> I xs W -> W.heap[D]? = some (.deferred (some [])) -> Q .normal { a with defers := { target := .collected D, args := #[] } :: a.defers } W)
  (hstop : ∀ (D : Nat) (c : Code) (pre : List α) (W : World), w.heap.size <= D -> Ix c pre W -> W.heap[D]? = some (.deferred (some [])) -> c.wpIn F n P Q { a with defers := { target := .collected D, args := #[] } :: a.defers } W) :
  (Code.rangeFunc g ps assign body).wpIn F n P Q a w := by
 refine wpIn_rangeFunc fun fn hfn => ?_
 rw [hro]
 obtain ⟨D, hD⟩ : ∃ D, D = w.heap.size := ⟨_, rfl⟩
 obtain ⟨r, hr⟩ : ∃ r : LoopState -> Option Code -> Loop, r = fun st c => { state := st, pending := c, fn, tmps := a.tmps, params := ps, assign, body, defers := D } := ⟨_, rfl⟩
 have hkept : zpg D r .ready none ((w.alloc (.deferred (some []))).alloc (.loop (r .ready none))) := by
  have e1 := World.alloc_heap_new (w.alloc (.deferred (some []))) (.loop (r .ready none))
  have e2 := World.alloc_heap_new w (.deferred (some []))
  rw [World.size_alloc, <- hD] at e1
  rw [<- hD] at e2
  exact ⟨e1, (Below.heap_alloc _ _ _ (by simp; omega)).trans e2⟩
 have hbel : Below w.heap.size w ((w.alloc (.deferred (some []))).alloc (.loop (r .ready none))) := ((Below.refl _ w).alloc (Nat.le_refl _) _).alloc (by simp) _
 have hinv : I [] ((w.alloc (.deferred (some []))).alloc (.loop (r .ready none))) := hI.alloc _ (hI.alloc _ h0)
 have hent : (Instr.enterLoop fn a.tmps ps assign body none).run P w = .ok (D + 1, [{ target := .collected D, args := #[] }]) ((w.alloc (.deferred (some []))).alloc (.loop (r .ready none))) := by
  rw [hr, hD]; exact run_enterLoop_outer _ _ _ _ _
 have hsz : w.heap.size <= ((w.alloc (.deferred (some []))).alloc (.loop (r .ready none))).heap.size /\ D + 1 < ((w.alloc (.deferred (some []))).alloc (.loop (r .ready none))).heap.size := by simp; omega
 generalize (w.alloc (.deferred (some []))).alloc (.loop (r .ready none)) = W1 at hkept hbel hinv hent hsz
 have hw : ∀ {X Y : World} {row : Option Nat}, (∀ k, row = some k -> W1.heap.size <= k /\ ∃ o : Obj, X.heap[k]? = some o /\ o.isWalk = true) -> ∀ k, row = some k -> w.heap.size <= k /\ ∃ o : Obj, X.heap[k]? = some o /\ o.isCells = false := fun hrow k e => by
  obtain ⟨hk, o, ho, hoo⟩ := hrow k e
  exact ⟨by omega, o, ho, Obj.not_cells_of_walk hoo⟩
 refine ⟨D + 1, _, W1, { target := .fn (.func gf) lb, args := #[.func (.yield (D + 1)) #[] #[]] }, W1, gf, #[.func (.yield (D + 1)) #[] #[]] ++ lb, W1, hent, ?_, ?_, ?_, fun _ => h1, ?_⟩
 ·simp only [resolve, hg]
  simp [go_sem]
 ·intro f' hf'
  simp [Target.leads] at hf'
  exact hf' ▸ hFg
 ·simp [invoke, go_sem, eg]
 ·refine (hseq (D + 1) (fun pre W => I pre W /\ zpg D r .ready none W) (fun pre W => ∃ c, Ix c pre W /\ zpg D r .done (some c) W) W1 (hb0.trans (hbel.mono hb0.size))
   (fun s X Y row hs hgr hrow => ⟨hI s X Y row hs.1 hgr (hw (Y := Y) hrow), (grownBy_keeps hgr (fun k e => (hrow k e).2) hs.2.1 rfl).trans hs.2.1, (grownBy_keeps hgr (fun k e => (hrow k e).2) hs.2.2 rfl).trans hs.2.2⟩)
   (fun s X Y row hs hgr hrow => by
    obtain ⟨c, hc, hl, hd⟩ := hs
    exact ⟨c, hIx c s X Y row hc hgr (hw (Y := Y) hrow), (grownBy_keeps hgr (fun k e => (hrow k e).2) hl rfl).trans hl, (grownBy_keeps hgr (fun k e => (hrow k e).2) hd rfl).trans hd⟩)
   ?_ ⟨hinv, hkept⟩).mono ?_
  ·rintro pre x V ⟨hi, hk⟩ hG
   have hy := run_yield (P := P) (args := encs x) hk.1 (by rw [hr]; exact hps x)
   rw [hr] at hy
   refine ⟨fn, _, assign, body, hy, roundIn_of_wpIn hfn (hassign _ x V _ ?_)⟩
   refine ⟨V.putObj (D + 1) (.loop (r .busy none)), by have := run_beginRound (P := P) hk.1 (by rw [hr]); rw [hr] at this ⊢; exact this, ?_⟩
   have hk2 := hk.turn .busy none
   refine wpIn_mono (hbody _ pre x _ (hI.putObj _ hi (by omega) hk.1 rfl) hG) ?_
   rintro e a3 V3 he
   cases e with
   | normal =>
    obtain ⟨hkf3, hkp3, hi3⟩ := he
    have hk3 := hk2.from (show KeepsFrom D _ V3 by have h := hkf3; rwa [<- hD] at h)
    refine ⟨.bool true, V3.putObj (D + 1) (.loop (r .ready none)), by have := run_endRound (P := P) none hk3.1; rw [hr] at this ⊢; exact this, .inl ⟨rfl, ⟨hI.putObj _ hi3 (by omega) hk3.1 rfl, hk3.turn .ready none⟩, ?_⟩⟩
    exact hKt (hKt (hKb _ _ _ _ (by omega) hk.1 rfl rfl) hkp3) (hKb _ _ _ _ (by omega) hk3.1 rfl rfl)
   | exit i =>
    obtain ⟨hkf3, hi3⟩ := he
    have hk3 := hk2.from (show KeepsFrom D _ V3 by have h := hkf3; rwa [<- hD] at h)
    refine ⟨.bool false, V3.putObj (D + 1) (.loop (r .done (some (.exit i)))), by have := run_endRound (P := P) (some (.exit i)) hk3.1; rw [hr] at this ⊢; exact this, .inr ⟨rfl, .exit i, (hIx _).putObj _ hi3 (by omega) hk3.1 rfl, hk3.turn .done (some (.exit i))⟩⟩
   | ret => exact he.elim
   | goto t => exact he.elim
   | panic c => exact he.elim
   | outgrown => exact he.elim
  ·rintro e V ⟨⟨v, rfl⟩, (⟨xs, hS, hi, hk⟩ | ⟨pre, c, hi, hk⟩)⟩
   ·refine ⟨none, _, by have := run_endLoop (P := P) hk.1 (by rw [hr]; simp); rw [hr] at this; exact this, ?_⟩
    exact hdone D xs _ (by omega) hS (hI.putObj _ hi (by omega) hk.1 rfl) ((World.putObj_heap_other (by omega)).trans hk.2)
   ·refine ⟨some c, _, by have := run_endLoop (P := P) hk.1 (by rw [hr]; simp); rw [hr] at this; exact this, ?_⟩
    exact hstop D c pre _ (by omega) ((hIx c).putObj _ hi (by omega) hk.1 rfl) ((World.putObj_heap_other (by omega)).trans hk.2)
end Go.Proofs.YtnbkkjcmblfhpaaGreat
namespace Go.Proofs.YtnbkkjcmblfhpaaGreat
set_option maxRecDepth 100000
open Go.RowKit
namespace J
def Cut (b : List Int) (P : List (List Int)) (p : Nat) : Prop := p <= b.length /\ (∀ x ∈ P, M.isn (x.length : Int)) /\ b.take p = P.flatMap one
theorem Cut.start (b : List Int) : Cut b [] 0 := ⟨Nat.zero_le _, by simp, by simp⟩
theorem Cut.step {b : List Int} {P : List (List Int)} {p e : Nat} {m : Int} (hb : ∀ c ∈ b, 0 <= c /\ c <= 255) (h : Cut b P p) (hh : M.head (b.drop p) = some (m, e)) (hm : m <= (b.length : Int) - ((p : Int) + e)) :
  0 <= m /\ 0 < e /\ p + e + m.toNat <= b.length /\ ((b.take (p + e + m.toNat)).drop (p + e)).length = m.toNat /\ Cut b (P ++ [(b.take (p + e + m.toNat)).drop (p + e)]) (p + e + m.toNat) := by
 obtain ⟨hn, ht, hl, hle, h0⟩ := zoc (fun c hc => hb c (List.mem_of_mem_drop hc)) hh
 obtain ⟨h1, h2, h3⟩ := h
 have hn0 := hn.1
 have hL : ((b.take (p + e + m.toNat)).drop (p + e)).length = m.toNat := by simp; omega
 refine ⟨hn0, h0, by omega, hL, by omega, fun x hx => ?_, ?_⟩
 ·rcases List.mem_append.1 hx with hx | hx
  ·exact h2 x hx
  ·simp only [List.mem_singleton] at hx
   rw [hx, hL, Int.toNat_of_nonneg hn0]; exact hn
 ·rw [List.flatMap_append, <- h3]
  simp only [List.flatMap_cons, List.flatMap_nil, List.append_nil, one]
  rw [hL, Int.toNat_of_nonneg hn0, <- ht, List.drop_take, show p + e + m.toNat - (p + e) = m.toNat by omega, List.take_add (i := p + e), List.take_add (i := p), List.append_assoc]
theorem pre_of : ∀ (P Q : List (List Int)) (r : List Int), (∀ b ∈ P, M.isn (b.length : Int)) -> (∀ b ∈ Q, M.isn (b.length : Int)) -> P.flatMap one ++ r = Q.flatMap one -> ∃ T, Q = P ++ T /\ r = T.flatMap one
 | [], Q, r, _, _, h => ⟨Q, rfl, by simpa using h⟩
 | x :: P, [], r, hP, _, h => by
  have hx := zok (hP x (by simp))
  have := congrArg List.length h
  simp only [List.flatMap_cons, List.flatMap_nil, List.length_append, List.length_nil, one] at this
  omega
 | x :: P, y :: Q, r, hP, hQ, h => by
  simp only [List.flatMap_cons, List.append_assoc] at h
  obtain ⟨rfl, h2⟩ := one_append (hP x (by simp)) (hQ y (by simp)) h
  obtain ⟨T, rfl, h3⟩ := pre_of P Q r (fun b hb => hP b (by simp [hb])) (fun b hb => hQ b (by simp [hb])) h2
  exact ⟨T, rfl, h3⟩
theorem Cut.pre {b : List Int} {P : List (List Int)} {p : Nat} {s : Y.St} (h : Cut b P p) (hs : put s = some b) : ∃ T, parts s = P ++ T /\ b.drop p = T.flatMap one := by
 obtain ⟨hk, hb⟩ := zc7.1 hs
 obtain ⟨h1, h2, h3⟩ := h
 exact pre_of P (parts s) (b.drop p) h2 (parts_isn hk.1) (by rw [<- h3, List.take_append_drop, hb]; rfl)
theorem Cut.len {b : List Int} {P : List (List Int)} {p : Nat} (h : Cut b P p) : P.length <= p := by
 obtain ⟨h1, h2, h3⟩ := h
 have e : ∀ P : List (List Int), (∀ x ∈ P, M.isn (x.length : Int)) -> P.length <= (P.flatMap one).length := by
  intro P
  induction P with
  | nil => simp
  | cons x P ih =>
   intro h
   have := ih (fun y hy => h y (by simp [hy]))
   have := zok (h x (by simp))
   rw [List.flatMap_cons, List.length_append, List.length_cons]
   simp only [one, List.length_append]
   omega
 have := e P h2
 rw [<- h3, List.length_take] at this
 omega
def Ends (b : List Int) (p : Nat) : Prop := M.head (b.drop p) = none \/ ∃ (m : Int) (e : Nat), M.head (b.drop p) = some (m, e) /\ (b.length : Int) - ((p : Int) + e) < m
theorem Cut.ends {b : List Int} {P : List (List Int)} {p : Nat} {s : Y.St} (h : Cut b P p) (he : Ends b p) (hs : put s = some b) : parts s = P := by
 obtain ⟨T, h1, h2⟩ := h.pre hs
 cases T with
 | nil => simpa using h1
 | cons x T =>
  exfalso
  have hx : M.isn (x.length : Int) := parts_isn (zc7.1 hs).1.1 x (by rw [h1]; simp)
  have hh := one_head hx (T.flatMap one)
  rw [show one x ++ T.flatMap one = (x :: T).flatMap one by simp, <- h2] at hh
  rcases he with h3 | ⟨m, e, h3, h4⟩
  ·rw [h3] at hh; cases hh
  ·rw [h3] at hh
   simp only [Option.some.injEq, Prod.mk.injEq] at hh
   have := congrArg List.length h2
   simp only [List.length_drop, List.flatMap_cons, List.length_append, one] at this
   have := h.1
   omega
abbrev PK := Int × Option Addr × Nat × List Int
abbrev encK (x : PK) : Array Value := #[.int .i64 x.1, .slice x.2.1 x.2.2.2.length x.2.2.1]
def Tells (W0 : World) (b : List Int) (pre : List PK) (x : PK) : Prop :=
 x.1 = pre.length /\ zfv .u8 W0 x.2.1 x.2.2.1 x.2.2.2 /\ (x.2.1 = none -> x.2.2.2.length = 0 /\ x.2.2.1 = 0) /\ x.2.2.2.length <= b.length /\ ∀ s, put s = some b -> ∃ T, parts s = pre.map (fun y => y.2.2.2) ++ x.2.2.2 :: T
def Whole (b : List Int) (xs : List PK) : Prop := ∀ s, put s = some b -> parts s = xs.map fun y => y.2.2.2
theorem head_at (L : List Int) (p : Nat) : ∃ n q : Int, M.get L p = (n, q) /\ ((∃ e : Nat, M.head (L.drop p) = some (n, e) /\ q = (p : Int) + e) \/ (M.head (L.drop p) = none /\ q = -1)) := by
 cases hh : M.head (L.drop p) with
 | none => exact ⟨0, -1, zum hh, .inr ⟨rfl, rfl⟩⟩
 | some r => exact ⟨r.1, (p : Int) + r.2, zu4 hh, .inl ⟨r.2, rfl, rfl⟩⟩
end J
theorem ztb (a : Option Addr) {len cap l h m : Nat} (h1 : l <= h) (h2 : h <= m) (h3 : m <= cap) (w : World) :
  (Instr.sliceAt 51 (.slice a len cap) (some (.int .i64 (l : Int))) (some (.int .i64 (h : Int))) (some (.int .i64 (m : Int)))).run Tryz.prog w = .ok (.slice (sl a l m) (h - l) (m - l)) w := by
 rw [run_sliceAt_slice (w := w) (h := Tryz.underlying51), run_slice_lhm (w := w) (ht := Tryz.underlying51) (h0 := by omega) (h1 := by omega) (h2 := by omega) (h3 := by omega)]
 have hs : (sizeOf (Tryz.prog.elem 51)).run Tryz.prog w = .ok 1 w := by kernel_rfl
 rw [hs]
 simp [Result.andThen, sliced, sl]
end Go.Proofs.YtnbkkjcmblfhpaaGreat
namespace Go.Proofs.YtnbkkjcmblfhpaaGreat
set_option maxHeartbeats 1000000
set_option maxRecDepth 100000
open Go.RowKit
attribute [local go_sem] Oper.semAt_some
theorem zrw (n l Bn H : Nat) (hn : 3 <= n) (a : Option Addr) (len cap : Nat) (L : List Int) (h9 : len <= 90000) (hcap : len <= cap) (hlen : L.length = len) (QJ QX : List J.PK -> World -> Prop) (W W0 : World)
  (hY : ∀ pre x V, QJ pre V -> J.Tells W0 L pre x -> YieldAt Fence.wide (n - 1) Tryz.prog l (J.encK x) V fun e V' => (e = .returned (.bool true) /\ QJ (pre ++ [x]) V' /\ Kp H Bn V V') \/ (e = .returned (.bool false) /\ QX (pre ++ [x]) V'))
  (hBn : Boxed W Bn 51 (.slice a len cap)) (hH : W0.heap.size <= H) (hW0 : Below H W0 W) (hL : zfv .u8 W0 a cap L) (hN : a = none -> len = 0 /\ cap = 0) (h0 : QJ [] W) :
  CallsIn Fence.wide n Tryz.prog 185 #[.func (.yield l) #[] #[], .pointer (some ⟨Bn, 0, none⟩)] W fun e V => (∃ v, e = .returned v) /\ ((∃ xs, J.Whole L xs /\ QJ xs V) \/ (∃ pre, QX pre V)) := by
 have hf1 : Fence.wide.fn 185 := trivial
 have hf2 : Fence.wide.fn 184 := trivial
 have hro : Fence.wide.round = none := rfl
 have hby := Zh (zo9 hL.2.1)
 have HL := Zh hL
 have HE := Zh hlen
 have HN := Zh hN
 have HW0 := Zh hW0
 clear hL hlen hN hW0
 have hcell := hBn.cell
 have h1 : 1 <= n := by omega
 have h2 : 1 <= n - 1 := by omega
 refine callsIn_of_wp Tryz.func185 rfl hf1 ?_ hro
 simp only [Tryz.ntmps185, List.size_toArray, List.length_cons, List.length_nil, Nat.reduceAdd, Nat.reduceSub, Array.replicate_succ, Array.replicate_zero, List.push_toArray, List.append_toArray, List.nil_append, List.cons_append]
 gi_wp2_with fail
 gi_loopw [3, 4] (fun x y wr => ∃ (pre : List J.PK) (p : Nat), Hid (J.Cut L (pre.map fun y => y.2.2.2) p) /\ Hid (QJ pre wr) /\ Kp H Bn W wr /\ x = .int .i64 (p : Int) /\ y = .int .i64 (pre.length : Int)) (fun x _ _ => len + 1 - (intOf x).toNat)
 case atStart => exact ⟨[], 0, Zh (J.Cut.start _), Zh h0, Kp.r _ _ _, rfl, rfl⟩
 case round =>
  obtain ⟨pre, p, HP, HJ, hK, rfl, rfl⟩ := hrel
  have hcw : wr.cell? ⟨Bn, 0, none⟩ = some (.slice a len cap) := (World.cell?_of_block (w := W) (a := ⟨Bn, 0, none⟩) hK.2).trans hcell
  have HR3 : Hid (zfv .u8 wr a cap L) := Zh (HL.out.belowN hH (HW0.out.trans hK.1))
  obtain ⟨m, q, hg, hq⟩ := J.head_at L p
  have hpre : pre.length <= p := by have := HP.out.len; rwa [List.length_map] at this
  have hpl : p <= len := by have := HP.out.1; rw [HE.out] at this; exact this
  rcases hq with ⟨e, hh, rfl⟩ | ⟨hh, rfl⟩
  ·have hh0 := zoc (fun c hc => hby.out c (List.mem_of_mem_drop hc)) hh
   have he0 : 0 < e := hh0.2.2.2.2
   have hm0 : 0 <= m := hh0.1.1
   have hm1 : m <= 1099511627776 := hh0.1.2
   have hel : p + e <= len := by have := hh0.2.2.2.1; rw [List.length_drop, HE.out] at this; omega
   have hge : decide ((p : Int) + e < 0) = false := by simp; omega
   have HH := Zh hh
   have HG := Zh hg
   clear hg hh hh0
   by_cases hm : m <= (len : Int) - ((p : Int) + e)
   ·have hgt : decide ((len : Int) - ((p : Int) + e) < m) = false := by simp; omega
    obtain ⟨m, rfl⟩ : ∃ k : Nat, m = (k : Int) := ⟨m.toNat, by omega⟩
    obtain ⟨_, _, c3, c4, c5⟩ := HP.out.step hby.out HH.out (by rw [HE.out]; exact hm)
    simp only [Int.toNat_natCast] at c3 c4 c5
    obtain ⟨part, hpart⟩ : ∃ B, (L.take (p + e + m)).drop (p + e) = B := ⟨_, rfl⟩
    rw [hpart] at c4 c5
    have HC5 := Zh c5
    have hT : J.Tells W0 L pre ((pre.length : Int), sl a (p + e) (p + e + m), m, part) := ⟨rfl, by
     have := zo6 (l := p + e) (h := p + e + m) (m := p + e + m) HL.out (by omega) (by rw [HE.out]; omega) (Nat.le_refl _) (by unfold maxLen; omega)
     rw [hpart] at this
     simpa using this, fun h => by have := HN.out (zs6 h); dsimp only; omega, by dsimp only; rw [HE.out]; omega, fun s hs => by
     obtain ⟨T, h1, _⟩ := c5.pre hs
     exact ⟨T, by simpa using h1⟩⟩
    obtain ⟨fn, tmps, assign, body, hy, hR⟩ := hY pre _ wr HJ.out hT
    dsimp only [J.encK] at hy
    rw [c4] at hy
    have hs3 : ∀ w, (Instr.sliceAt 51 (.slice a len cap) (some (.int .i64 ((p : Int) + e))) (some (.int .i64 ((p : Int) + e + m))) (some (.int .i64 ((p : Int) + e + m)))).run Tryz.prog w = .ok (.slice (sl a (p + e) (p + e + m)) m m) w := fun w => by
     have := ztb a (len := len) (cap := cap) (l := p + e) (h := p + e + m) (m := p + e + m) (by omega) (Nat.le_refl _) (by omega) w
     simpa using this
    clear c5 hT hpart hm
    gi_wp2_with (gi_at_call 184; refine (callsIn_wide.2 (zn5 HG.out (zol a len cap _ L _ HE.out HR3.out))).mono ?_; rintro e' w' ⟨rfl, rfl⟩)
    refine hR.mono ?_
    rintro e3 W3 (⟨rfl, hJ3, hk3⟩ | ⟨rfl, hx3⟩)
    ·gi_wp2
     go_roundw
     case rel => exact ⟨pre ++ [((pre.length : Int), sl a (p + e) (p + e + m), m, part)], p + e + m, Zh (by simpa using HC5.out), Zh hJ3, hK.t hk3, by simp, by simp⟩
     case measure => simp [intOf]; omega
    ·gi_wp2
     refine bodyPost_ret (results_none rfl _ _ _) rfl ?_
     exact ⟨⟨_, rfl⟩, .inr ⟨_, hx3⟩⟩
   ·have hgt : decide ((len : Int) - ((p : Int) + e) < m) = true := by simp; omega
    gi_wp2_with (gi_at_call 184; refine (callsIn_wide.2 (zn5 HG.out (zol a len cap _ L _ HE.out HR3.out))).mono ?_; rintro e' w' ⟨rfl, rfl⟩)
    refine bodyPost_ret (results_none rfl _ _ _) rfl ?_
    exact ⟨⟨_, rfl⟩, .inl ⟨pre, fun s hs => HP.out.ends (.inr ⟨m, e, HH.out, by rw [HE.out]; omega⟩) hs, HJ.out⟩⟩
  ·have HG := Zh hg
   have HH := Zh hh
   clear hg hh
   gi_wp2_with (gi_at_call 184; refine (callsIn_wide.2 (zn5 HG.out (zol a len cap _ L _ HE.out HR3.out))).mono ?_; rintro e' w' ⟨rfl, rfl⟩)
   refine bodyPost_ret (results_none rfl _ _ _) rfl ?_
   exact ⟨⟨_, rfl⟩, .inl ⟨pre, fun s hs => HP.out.ends (.inl HH.out) hs, HJ.out⟩⟩
theorem zqc (n H Bn : Nat) (hn : 3 <= n) (a : Option Addr) (len cap : Nat) (L : List Int) (h9 : len <= 90000) (hcap : len <= cap) (hlen : L.length = len) (W0 w : World) (hBn : Boxed w Bn 51 (.slice a len cap)) (hH : W0.heap.size <= H) (hHw : H <= w.heap.size) (hW0 : Below H W0 w) (hL : zfv .u8 W0 a cap L) (hN : a = none -> len = 0 /\ cap = 0) :
  zqn Fence.wide n Tryz.prog 185 #[.pointer (some ⟨Bn, 0, none⟩)] J.encK (J.Tells W0 L) (Kp H Bn) (J.Whole L) w := fun l Q Qx W hW _ _ hY h0 =>
 zrw n l Bn H hn a len cap L h9 hcap hlen Q Qx W W0 hY ((hW.block Bn hBn.lt).trans hBn) hH (hW0.trans (hW.mono hHw)) hL hN h0
theorem zsi (n : Nat) (a : Option Addr) (len cap : Nat) (w : World) :
  CallsIn Fence.wide n Tryz.prog 112 #[.slice a len cap] w fun e w' => e = .returned (.func (.func 185) #[] #[.pointer (some ⟨w.heap.size, 0, none⟩)]) /\ w' = w.alloc (.cells #[.slice a len cap] 51) := by
 have hf20 : Fence.wide.fn 112 := trivial
 refine callsIn_of_wp Tryz.func112 rfl hf20 ?_ rfl
 simp only [Tryz.ntmps112, List.size_toArray, List.length_cons, List.length_nil, Nat.reduceAdd, Nat.reduceSub, Array.replicate_succ, Array.replicate_zero, List.push_toArray, List.append_toArray, List.nil_append, List.cons_append]
 gi_wp2
 go_ret
 exact ⟨rfl, rfl⟩
end Go.Proofs.YtnbkkjcmblfhpaaGreat
namespace Go.Proofs.YtnbkkjcmblfhpaaGreat
set_option maxHeartbeats 2000000
set_option maxRecDepth 100000
open Go.RowKit
theorem zps {s : Y.St} (hs : J.ok s) : M.read ((J.pt1 s).getD []) = some (J.nums s) := by
 rw [read_some]
 exact (J.pt1_yes' hs.1)
theorem zpt (b H : Nat) (pa : Option Addr) (pl pc : Nat) (P : List Int) (w : World) (hl : P.length = pl) (hR : zfv .u8 w pa pc P) (h : J.Rd w b H J.s00 Y.a0 none 0 0 []) (hH : H <= w.heap.size) :
  Calls Tryz.prog 113 #[.pointer (some ⟨b, 0, none⟩), .slice pa pl pc] w fun r w' => ∃ (v : Bool) (s' : Y.St) (A' : Y.A9) (an : Option Addr) (nn cn : Nat) (N : List Int), r = .returned (.bool v) /\ Hid (J.Rd w' b H s' A' an nn cn N) /\ J.Far b H w w' /\ (s'.l = [] /\ s'.h = [] /\ (v = false -> s' = J.s00)) /\ (v = true -> 15 <= nn /\ nn <= 400 /\ (∀ x ∈ N, M.isn x) /\ s' = J.stN N) /\ ∀ s, J.ok s -> P = (J.pt1 s).getD [] -> v = true /\ N = J.nums s := by
 obtain ⟨i0, hi, hz0, hz1, hz2⟩ := zer
 have HR := Zh h
 have HP := Zh hR
 have HL := Zh hl
 have HH := Zh hH
 clear h hR hl hH
 have hsl := fun (a : Option Addr) (l c q : Nat) (hq : q <= l) (w : World) => zs8 a (len := l) (cap := c) (t := 74) Tryz.underlying74 (k := 1) (fun w => by kernel_rfl) w hq
 go_enter Tryz.func113, Tryz.ntmps113
 go_wp2_with fail
 refine (zql pa pl pc P _ HL.out HP.out).mono ?_
 rintro e w1 ⟨v, ok, rfl, hok, hrow, hb⟩
 obtain ⟨a2, c2, rfl⟩ := zm9 hrow
 have HR1 := Zh (HR.out.below hb)
 have HF1 : Hid (J.Far b H w w1) := Zh (J.Far.of_below hb HH.out)
 have HS1 := Zh (Nat.le_trans HH.out hb.size)
 obtain ⟨N, hS⟩ : ∃ S, (M.read P).getD [] = S := ⟨_, rfl⟩
 rw [hS] at hrow ⊢
 have hrow := zde hrow HH.out
 have HOK := Zh hok
 have HSS := Zh hS
 clear hb hok hS
 obtain ⟨nn, hq⟩ : ∃ q, N.length = q := ⟨_, rfl⟩
 rw [hq] at hrow ⊢
 have HO := Zh hrow
 have HQ := Zh hq
 clear hq hrow
 cases ok with
 | false =>
  go_wp2
  go_ret
  exact ⟨false, J.s00, Y.a0, none, 0, 0, [], rfl, HR1, HF1.out, ⟨rfl, rfl, fun _ => rfl⟩, (fun h => by cases h), fun s hs hP => by have h1 := HOK.out; rw [hP, zps hs] at h1; cases h1⟩
 | true =>
  have hsome : M.read P = some N := by
   have h1 := HOK.out; have h2 := HSS.out
   cases hz : M.read P with
   | none => rw [hz] at h1; cases h1
   | some x => rw [hz] at h2; exact congrArg some h2
  have h400 : nn <= 400 := by rw [<- HQ.out]; exact (znc.1 (read_some.1 hsome)).1
  have HIN : Hid (∀ x ∈ N, M.isn x) := Zh (znc.1 (read_some.1 hsome)).2.1
  have HW : Hid (∀ s, J.ok s -> P = (J.pt1 s).getD [] -> N = J.nums s) := Zh (fun s hs hP => by rw [hP, zps hs] at hsome; exact (Option.some.inj hsome).symm)
  clear hsome
  by_cases h15 : nn < 15
  ·have d0 : decide ((nn : Int) < 15) = true := by simp; omega
   go_wp2
   go_ret
   exact ⟨false, J.s00, Y.a0, none, 0, 0, [], rfl, HR1, HF1.out, ⟨rfl, rfl, fun _ => rfl⟩, (fun h => by cases h), fun s hs hP => by have h1 := HQ.out; rw [HW.out s hs hP, J.nums_len] at h1; omega⟩
  have d0 : decide ((nn : Int) < 15) = false := by simp; omega
  have t3 : ((nn : Int) - 15).tmod 3 = ((nn : Int) - 15) % 3 := Int.tmod_eq_emod_of_nonneg (by omega)
  by_cases hm3 : (nn - 15) % 3 = 0
  rotate_left
  ·have d1 : (((nn : Int) - 15) % 3 != 0) = true := by simp; omega
   go_wp2
   go_ret
   exact ⟨false, J.s00, Y.a0, none, 0, 0, [], rfl, HR1, HF1.out, ⟨rfl, rfl, fun _ => rfl⟩, (fun h => by cases h), fun s hs hP => by have h1 := HQ.out; rw [HW.out s hs hP, J.nums_len] at h1; omega⟩
  have d1 : (((nn : Int) - 15) % 3 != 0) = false := by simp; omega
  obtain ⟨gn, rfl⟩ : ∃ gn, a2 = some ⟨gn, 0, none⟩ := by
   obtain ⟨q', cp, e⟩ := J.row_some HO.out (by omega)
   simp only [Value.slice.injEq] at e; exact ⟨q', e.1⟩
  obtain ⟨hR2, hF2⟩ := J.rd_num HR1.out HS1.out HO.out
  have c16 := Zv HR1.out.k 16 (.slice none 0 0)
  have f16 := HR1.out.k.frozen 16
  obtain ⟨w2, hw2⟩ : ∃ W, w1.setCell ⟨b, 16, none⟩ (.slice (some ⟨gn, 0, none⟩) nn c2) = W := ⟨_, rfl⟩
  rw [hw2] at hR2 hF2
  have HR2 := Zh hR2
  have HF2 := Zh (HF1.out.trans hF2)
  have HS2 := Zh (Nat.le_trans HS1.out hF2.size)
  clear hR2 hF2
  have j1 : (1 : Int) < nn := by omega
  have j2 : (2 : Int) < nn := by omega
  have j3 : (3 : Int) < nn := by omega
  have j4 : (4 : Int) < nn := by omega
  have j5 : (5 : Int) < nn := by omega
  have j6 : (6 : Int) < nn := by omega
  have j7 : (7 : Int) < nn := by omega
  have j8 : (8 : Int) < nn := by omega
  have j9 : (9 : Int) < nn := by omega
  have j10 : (10 : Int) < nn := by omega
  have j11 : (11 : Int) < nn := by omega
  have j12 : (12 : Int) < nn := by omega
  have j0 : (0 : Int) < nn := by omega
  go_wp2_with fail
  try rw [hw2]
  clear c16 f16 hw2
  refine Zd (fun w' => w'.ownsRow H 3 1 (.slice (some ⟨gn, 0, none⟩) nn c2) nn (N.map (Value.int .i64))) (zab HR2.out.n (zaa w2)) fun RS0 => ?_
  refine Zq 0 b 0 RS0 ?_
  refine tk 1 (.slice (some ⟨gn, 0, none⟩) nn c2) RS0 ?_
  refine wpAnyH_take (i := 2) (v := .pointer (some ⟨gn, 0, none⟩)) rfl (by kernel_rfl) (by kernel_rfl) (by kernel_rfl) (fun _ _ _ h => h) (.inl ⟨by kernel_rfl, fun w9 hS => by
     go_simp
     exact fun h => absurd h (by omega)⟩) RS0 ?_
  refine Zl 3 (.int .i64 (J.nth N 0)) rfl (fun w9 hS => by
     have y0 : w9.cell? ⟨gn, 0, none⟩ = some (.int .i64 (J.nth N 0)) := J.row_get hS (by omega)
     go_simp) RS0 ?_
  refine tk 4 (.slice (some ⟨gn, 0, none⟩) nn c2) RS0 ?_
  refine wpAnyH_take (i := 5) (v := .pointer (some ⟨gn, 1, none⟩)) rfl (by kernel_rfl) (by kernel_rfl) (by kernel_rfl) (fun _ _ _ h => h) (.inl ⟨by kernel_rfl, fun w9 hS => by go_simp⟩) RS0 ?_
  refine Zl 6 (.int .i64 (J.nth N 1)) rfl (fun w9 hS => by
     have y1 : w9.cell? ⟨gn, 1, none⟩ = some (.int .i64 (J.nth N 1)) := J.row_get hS (by omega)
     go_simp) RS0 ?_
  refine tk 7 (.agg #[.int .i64 (J.nth N 0), .int .i64 (J.nth N 1)]) RS0 ?_
  refine tk 8 (.slice (some ⟨gn, 0, none⟩) nn c2) RS0 ?_
  refine wpAnyH_take (i := 9) (v := .pointer (some ⟨gn, 2, none⟩)) rfl (by kernel_rfl) (by kernel_rfl) (by kernel_rfl) (fun _ _ _ h => h) (.inl ⟨by kernel_rfl, fun w9 hS => by go_simp⟩) RS0 ?_
  refine Zl 10 (.int .i64 (J.nth N 2)) rfl (fun w9 hS => by
     have y2 : w9.cell? ⟨gn, 2, none⟩ = some (.int .i64 (J.nth N 2)) := J.row_get hS (by omega)
     go_simp) RS0 ?_
  refine tk 11 (.slice (some ⟨gn, 0, none⟩) nn c2) RS0 ?_
  refine wpAnyH_take (i := 12) (v := .pointer (some ⟨gn, 3, none⟩)) rfl (by kernel_rfl) (by kernel_rfl) (by kernel_rfl) (fun _ _ _ h => h) (.inl ⟨by kernel_rfl, fun w9 hS => by go_simp⟩) RS0 ?_
  refine Zl 13 (.int .i64 (J.nth N 3)) rfl (fun w9 hS => by
     have y3 : w9.cell? ⟨gn, 3, none⟩ = some (.int .i64 (J.nth N 3)) := J.row_get hS (by omega)
     go_simp) RS0 ?_
  refine tk 14 (.agg #[.int .i64 (J.nth N 2), .int .i64 (J.nth N 3)]) RS0 ?_
  refine tk 15 (.slice (some ⟨gn, 0, none⟩) nn c2) RS0 ?_
  refine wpAnyH_take (i := 16) (v := .pointer (some ⟨gn, 4, none⟩)) rfl (by kernel_rfl) (by kernel_rfl) (by kernel_rfl) (fun _ _ _ h => h) (.inl ⟨by kernel_rfl, fun w9 hS => by go_simp⟩) RS0 ?_
  refine Zl 17 (.int .i64 (J.nth N 4)) rfl (fun w9 hS => by
     have y4 : w9.cell? ⟨gn, 4, none⟩ = some (.int .i64 (J.nth N 4)) := J.row_get hS (by omega)
     go_simp) RS0 ?_
  refine tk 18 (.slice (some ⟨gn, 0, none⟩) nn c2) RS0 ?_
  refine wpAnyH_take (i := 19) (v := .pointer (some ⟨gn, 5, none⟩)) rfl (by kernel_rfl) (by kernel_rfl) (by kernel_rfl) (fun _ _ _ h => h) (.inl ⟨by kernel_rfl, fun w9 hS => by go_simp⟩) RS0 ?_
  refine Zl 20 (.int .i64 (J.nth N 5)) rfl (fun w9 hS => by
     have y5 : w9.cell? ⟨gn, 5, none⟩ = some (.int .i64 (J.nth N 5)) := J.row_get hS (by omega)
     go_simp) RS0 ?_
  refine tk 21 (.slice (some ⟨gn, 0, none⟩) nn c2) RS0 ?_
  refine wpAnyH_take (i := 22) (v := .pointer (some ⟨gn, 6, none⟩)) rfl (by kernel_rfl) (by kernel_rfl) (by kernel_rfl) (fun _ _ _ h => h) (.inl ⟨by kernel_rfl, fun w9 hS => by go_simp⟩) RS0 ?_
  refine Zl 23 (.int .i64 (J.nth N 6)) rfl (fun w9 hS => by
     have y6 : w9.cell? ⟨gn, 6, none⟩ = some (.int .i64 (J.nth N 6)) := J.row_get hS (by omega)
     go_simp) RS0 ?_
  refine tk 24 (.slice (some ⟨gn, 0, none⟩) nn c2) RS0 ?_
  refine wpAnyH_take (i := 25) (v := .pointer (some ⟨gn, 7, none⟩)) rfl (by kernel_rfl) (by kernel_rfl) (by kernel_rfl) (fun _ _ _ h => h) (.inl ⟨by kernel_rfl, fun w9 hS => by go_simp⟩) RS0 ?_
  refine Zl 26 (.int .i64 (J.nth N 7)) rfl (fun w9 hS => by
     have y7 : w9.cell? ⟨gn, 7, none⟩ = some (.int .i64 (J.nth N 7)) := J.row_get hS (by omega)
     go_simp) RS0 ?_
  refine tk 27 (.agg #[.int .i64 (J.nth N 0), .int .i64 (J.nth N 1), .int .i64 (J.nth N 2), .int .i64 (J.nth N 3), .int .i64 (J.nth N 4), .int .i64 (J.nth N 5), .int .i64 (J.nth N 6), .int .i64 (J.nth N 7)]) RS0 ?_
  refine Zq 28 b 0 RS0 ?_
  refine Zq 29 b 0 RS0 ?_
  refine Zq 30 b 0 RS0 ?_
  have HRd := Zh (HR2.out.below (zaa w2))
  have HFd := Zh (HF2.out.trans (J.Far.of_below (zaa w2) HS2.out))
  have HSd := Zh (Nat.le_trans HS2.out (zaa w2).size)
  obtain ⟨wd, hwd⟩ : ∃ V, World.drew w2 = V := ⟨_, rfl⟩
  rw [hwd] at RS0 HRd HFd HSd ⊢
  clear hwd
  have gst : wd.grownBy ((((((((wd.setCell ⟨b, 0, none⟩ (.int .i64 (J.nth N 0))).setCell ⟨b, 1, none⟩ (.int .i64 (J.nth N 1))).setCell ⟨b, 2, none⟩ (.int .i64 (J.nth N 2))).setCell ⟨b, 3, none⟩ (.int .i64 (J.nth N 3))).setCell ⟨b, 4, none⟩ (.int .i64 (J.nth N 4))).setCell ⟨b, 5, none⟩ (.int .i64 (J.nth N 5))).setCell ⟨b, 6, none⟩ (.int .i64 (J.nth N 6))).setCell ⟨b, 7, none⟩ (.int .i64 (J.nth N 7))) (some b) := ((((((((zf6 wd b 0 (.int .i64 (J.nth N 0))).trans (zf6 (wd.setCell ⟨b, 0, none⟩ (.int .i64 (J.nth N 0))) b 1 (.int .i64 (J.nth N 1)))).trans (zf6 ((wd.setCell ⟨b, 0, none⟩ (.int .i64 (J.nth N 0))).setCell ⟨b, 1, none⟩ (.int .i64 (J.nth N 1))) b 2 (.int .i64 (J.nth N 2)))).trans (zf6 (((wd.setCell ⟨b, 0, none⟩ (.int .i64 (J.nth N 0))).setCell ⟨b, 1, none⟩ (.int .i64 (J.nth N 1))).setCell ⟨b, 2, none⟩ (.int .i64 (J.nth N 2))) b 3 (.int .i64 (J.nth N 3)))).trans (zf6 ((((wd.setCell ⟨b, 0, none⟩ (.int .i64 (J.nth N 0))).setCell ⟨b, 1, none⟩ (.int .i64 (J.nth N 1))).setCell ⟨b, 2, none⟩ (.int .i64 (J.nth N 2))).setCell ⟨b, 3, none⟩ (.int .i64 (J.nth N 3))) b 4 (.int .i64 (J.nth N 4)))).trans (zf6 (((((wd.setCell ⟨b, 0, none⟩ (.int .i64 (J.nth N 0))).setCell ⟨b, 1, none⟩ (.int .i64 (J.nth N 1))).setCell ⟨b, 2, none⟩ (.int .i64 (J.nth N 2))).setCell ⟨b, 3, none⟩ (.int .i64 (J.nth N 3))).setCell ⟨b, 4, none⟩ (.int .i64 (J.nth N 4))) b 5 (.int .i64 (J.nth N 5)))).trans (zf6 ((((((wd.setCell ⟨b, 0, none⟩ (.int .i64 (J.nth N 0))).setCell ⟨b, 1, none⟩ (.int .i64 (J.nth N 1))).setCell ⟨b, 2, none⟩ (.int .i64 (J.nth N 2))).setCell ⟨b, 3, none⟩ (.int .i64 (J.nth N 3))).setCell ⟨b, 4, none⟩ (.int .i64 (J.nth N 4))).setCell ⟨b, 5, none⟩ (.int .i64 (J.nth N 5))) b 6 (.int .i64 (J.nth N 6)))).trans (zf6 (((((((wd.setCell ⟨b, 0, none⟩ (.int .i64 (J.nth N 0))).setCell ⟨b, 1, none⟩ (.int .i64 (J.nth N 1))).setCell ⟨b, 2, none⟩ (.int .i64 (J.nth N 2))).setCell ⟨b, 3, none⟩ (.int .i64 (J.nth N 3))).setCell ⟨b, 4, none⟩ (.int .i64 (J.nth N 4))).setCell ⟨b, 5, none⟩ (.int .i64 (J.nth N 5))).setCell ⟨b, 6, none⟩ (.int .i64 (J.nth N 6))) b 7 (.int .i64 (J.nth N 7))))
  have kst : Blok ((((((((wd.setCell ⟨b, 0, none⟩ (.int .i64 (J.nth N 0))).setCell ⟨b, 1, none⟩ (.int .i64 (J.nth N 1))).setCell ⟨b, 2, none⟩ (.int .i64 (J.nth N 2))).setCell ⟨b, 3, none⟩ (.int .i64 (J.nth N 3))).setCell ⟨b, 4, none⟩ (.int .i64 (J.nth N 4))).setCell ⟨b, 5, none⟩ (.int .i64 (J.nth N 5))).setCell ⟨b, 6, none⟩ (.int .i64 (J.nth N 6))).setCell ⟨b, 7, none⟩ (.int .i64 (J.nth N 7))) b 153 (Y.cs { J.s00 with d := ⟨J.nth N 0, J.nth N 1, J.nth N 2, J.nth N 3, J.nth N 4, J.nth N 5, J.nth N 6, J.nth N 7⟩ } Y.a0 ++ [Value.slice (some ⟨gn, 0, none⟩) nn c2]).toArray := by
   have := ((((((((HRd.out.k.set 0 (.int .i64 (J.nth N 0))).set 1 (.int .i64 (J.nth N 1))).set 2 (.int .i64 (J.nth N 2))).set 3 (.int .i64 (J.nth N 3))).set 4 (.int .i64 (J.nth N 4))).set 5 (.int .i64 (J.nth N 5))).set 6 (.int .i64 (J.nth N 6))).set 7 (.int .i64 (J.nth N 7)))
   simpa [Y.cs, Y.a0, J.s00] using this
  obtain ⟨hR, hF⟩ := J.rd_new HRd.out gst HSd.out kst ⟨rfl, rfl, rfl⟩
  have RS1 : (fun w' => w'.ownsRow H 3 1 (.slice (some ⟨gn, 0, none⟩) nn c2) nn (N.map (Value.int .i64))) (((((((((wd.setCell ⟨b, 0, none⟩ (.int .i64 (J.nth N 0))).setCell ⟨b, 1, none⟩ (.int .i64 (J.nth N 1))).setCell ⟨b, 2, none⟩ (.int .i64 (J.nth N 2))).setCell ⟨b, 3, none⟩ (.int .i64 (J.nth N 3))).setCell ⟨b, 4, none⟩ (.int .i64 (J.nth N 4))).setCell ⟨b, 5, none⟩ (.int .i64 (J.nth N 5))).setCell ⟨b, 6, none⟩ (.int .i64 (J.nth N 6))).setCell ⟨b, 7, none⟩ (.int .i64 (J.nth N 7)))) := hR.n
  refine zaf (i := 31) (by kernel_rfl) (zah (w' := ((((((((wd.setCell ⟨b, 0, none⟩ (.int .i64 (J.nth N 0))).setCell ⟨b, 1, none⟩ (.int .i64 (J.nth N 1))).setCell ⟨b, 2, none⟩ (.int .i64 (J.nth N 2))).setCell ⟨b, 3, none⟩ (.int .i64 (J.nth N 3))).setCell ⟨b, 4, none⟩ (.int .i64 (J.nth N 4))).setCell ⟨b, 5, none⟩ (.int .i64 (J.nth N 5))).setCell ⟨b, 6, none⟩ (.int .i64 (J.nth N 6))).setCell ⟨b, 7, none⟩ (.int .i64 (J.nth N 7)))) rfl (by kernel_rfl) (J.exec_store (p := ⟨b, 0, none⟩) rfl (by kernel_rfl) (by kernel_rfl) (J.st8 HRd.out.k rfl ((J.nth N 0)) ((J.nth N 1)) ((J.nth N 2)) ((J.nth N 3)) ((J.nth N 4)) ((J.nth N 5)) ((J.nth N 6)) ((J.nth N 7)))) ⟨RS1, ?_⟩)
  refine wpAnyH_done (by kernel_rfl) ?_ _
  simp only [List.getElem_toArray, List.getElem_cons_succ, List.getElem_cons_zero, zc7, ztx, List.setIfInBounds_toArray, List.set_cons_succ, List.set_cons_zero]
  have HR3 := Zh hR
  have HF3 := Zh (HFd.out.trans hF)
  have HS3 := Zh (Nat.le_trans HSd.out hF.size)
  obtain ⟨w3, hw3⟩ : ∃ V, ((((((((wd.setCell ⟨b, 0, none⟩ (.int .i64 (J.nth N 0))).setCell ⟨b, 1, none⟩ (.int .i64 (J.nth N 1))).setCell ⟨b, 2, none⟩ (.int .i64 (J.nth N 2))).setCell ⟨b, 3, none⟩ (.int .i64 (J.nth N 3))).setCell ⟨b, 4, none⟩ (.int .i64 (J.nth N 4))).setCell ⟨b, 5, none⟩ (.int .i64 (J.nth N 5))).setCell ⟨b, 6, none⟩ (.int .i64 (J.nth N 6))).setCell ⟨b, 7, none⟩ (.int .i64 (J.nth N 7))) = V := ⟨_, rfl⟩
  rw [hw3] at HR3 HF3 HS3 ⊢
  clear hw3 gst kst hR hF HRd HFd HSd
  go_wp2_with fail
  refine Zd (fun w' => w'.ownsRow H 3 1 (.slice (some ⟨gn, 0, none⟩) nn c2) nn (N.map (Value.int .i64))) (zab HR3.out.n (zaa w3)) fun RS0 => ?_
  refine Zq 0 b 0 RS0 ?_
  refine tk 1 (.slice (some ⟨gn, 0, none⟩) nn c2) RS0 ?_
  refine wpAnyH_take (i := 2) (v := .pointer (some ⟨gn, 8, none⟩)) rfl (by kernel_rfl) (by kernel_rfl) (by kernel_rfl) (fun _ _ _ h => h) (.inl ⟨by kernel_rfl, fun w9 hS => by go_simp⟩) RS0 ?_
  refine Zl 3 (.int .i64 (J.nth N 8)) rfl (fun w9 hS => by
     have y8 : w9.cell? ⟨gn, 8, none⟩ = some (.int .i64 (J.nth N 8)) := J.row_get hS (by omega)
     go_simp) RS0 ?_
  refine tk 4 (.slice (some ⟨gn, 0, none⟩) nn c2) RS0 ?_
  refine wpAnyH_take (i := 5) (v := .pointer (some ⟨gn, 9, none⟩)) rfl (by kernel_rfl) (by kernel_rfl) (by kernel_rfl) (fun _ _ _ h => h) (.inl ⟨by kernel_rfl, fun w9 hS => by go_simp⟩) RS0 ?_
  refine Zl 6 (.int .i64 (J.nth N 9)) rfl (fun w9 hS => by
     have y9 : w9.cell? ⟨gn, 9, none⟩ = some (.int .i64 (J.nth N 9)) := J.row_get hS (by omega)
     go_simp) RS0 ?_
  refine tk 7 (.slice (some ⟨gn, 0, none⟩) nn c2) RS0 ?_
  refine wpAnyH_take (i := 8) (v := .pointer (some ⟨gn, 10, none⟩)) rfl (by kernel_rfl) (by kernel_rfl) (by kernel_rfl) (fun _ _ _ h => h) (.inl ⟨by kernel_rfl, fun w9 hS => by go_simp⟩) RS0 ?_
  refine Zl 9 (.int .i64 (J.nth N 10)) rfl (fun w9 hS => by
     have y10 : w9.cell? ⟨gn, 10, none⟩ = some (.int .i64 (J.nth N 10)) := J.row_get hS (by omega)
     go_simp) RS0 ?_
  refine tk 10 (.slice (some ⟨gn, 0, none⟩) nn c2) RS0 ?_
  refine wpAnyH_take (i := 11) (v := .pointer (some ⟨gn, 11, none⟩)) rfl (by kernel_rfl) (by kernel_rfl) (by kernel_rfl) (fun _ _ _ h => h) (.inl ⟨by kernel_rfl, fun w9 hS => by go_simp⟩) RS0 ?_
  refine Zl 12 (.int .i64 (J.nth N 11)) rfl (fun w9 hS => by
     have y11 : w9.cell? ⟨gn, 11, none⟩ = some (.int .i64 (J.nth N 11)) := J.row_get hS (by omega)
     go_simp) RS0 ?_
  refine wpAnyH_take (i := 13) (v := .bool (J.nth N 11 == 1)) rfl (by kernel_rfl) (by kernel_rfl) (by kernel_rfl) (fun _ _ _ h => h) (.inl ⟨by kernel_rfl, fun w9 hS => by go_simp⟩) RS0 ?_
  refine tk 14 (.agg #[.int .i64 (J.nth N 8), .int .i64 (J.nth N 9), .int .i64 (J.nth N 10), .bool (J.nth N 11 == 1)]) RS0 ?_
  refine Zq 15 b 0 RS0 ?_
  refine Zq 16 b 0 RS0 ?_
  refine Zq 17 b 8 RS0 ?_
  have HRd := Zh (HR3.out.below (zaa w3))
  have HFd := Zh (HF3.out.trans (J.Far.of_below (zaa w3) HS3.out))
  have HSd := Zh (Nat.le_trans HS3.out (zaa w3).size)
  obtain ⟨wd, hwd⟩ : ∃ V, World.drew w3 = V := ⟨_, rfl⟩
  rw [hwd] at RS0 HRd HFd HSd ⊢
  clear hwd
  have gst : wd.grownBy ((((wd.setCell ⟨b, 8, none⟩ (.int .i64 (J.nth N 8))).setCell ⟨b, 9, none⟩ (.int .i64 (J.nth N 9))).setCell ⟨b, 10, none⟩ (.int .i64 (J.nth N 10))).setCell ⟨b, 11, none⟩ (.bool (J.nth N 11 == 1))) (some b) := ((((zf6 wd b 8 (.int .i64 (J.nth N 8))).trans (zf6 (wd.setCell ⟨b, 8, none⟩ (.int .i64 (J.nth N 8))) b 9 (.int .i64 (J.nth N 9)))).trans (zf6 ((wd.setCell ⟨b, 8, none⟩ (.int .i64 (J.nth N 8))).setCell ⟨b, 9, none⟩ (.int .i64 (J.nth N 9))) b 10 (.int .i64 (J.nth N 10)))).trans (zf6 (((wd.setCell ⟨b, 8, none⟩ (.int .i64 (J.nth N 8))).setCell ⟨b, 9, none⟩ (.int .i64 (J.nth N 9))).setCell ⟨b, 10, none⟩ (.int .i64 (J.nth N 10))) b 11 (.bool (J.nth N 11 == 1))))
  have kst : Blok ((((wd.setCell ⟨b, 8, none⟩ (.int .i64 (J.nth N 8))).setCell ⟨b, 9, none⟩ (.int .i64 (J.nth N 9))).setCell ⟨b, 10, none⟩ (.int .i64 (J.nth N 10))).setCell ⟨b, 11, none⟩ (.bool (J.nth N 11 == 1))) b 153 (Y.cs { J.s00 with d := ⟨J.nth N 0, J.nth N 1, J.nth N 2, J.nth N 3, J.nth N 4, J.nth N 5, J.nth N 6, J.nth N 7⟩, p := ⟨J.nth N 8, J.nth N 9, J.nth N 10, J.nth N 11 == 1⟩ } Y.a0 ++ [Value.slice (some ⟨gn, 0, none⟩) nn c2]).toArray := by
   have := ((((HRd.out.k.set 8 (.int .i64 (J.nth N 8))).set 9 (.int .i64 (J.nth N 9))).set 10 (.int .i64 (J.nth N 10))).set 11 (.bool (J.nth N 11 == 1)))
   simpa [Y.cs, Y.a0, J.s00] using this
  obtain ⟨hR, hF⟩ := J.rd_new HRd.out gst HSd.out kst ⟨rfl, rfl, rfl⟩
  have RS1 : (fun w' => w'.ownsRow H 3 1 (.slice (some ⟨gn, 0, none⟩) nn c2) nn (N.map (Value.int .i64))) (((((wd.setCell ⟨b, 8, none⟩ (.int .i64 (J.nth N 8))).setCell ⟨b, 9, none⟩ (.int .i64 (J.nth N 9))).setCell ⟨b, 10, none⟩ (.int .i64 (J.nth N 10))).setCell ⟨b, 11, none⟩ (.bool (J.nth N 11 == 1)))) := hR.n
  refine zaf (i := 18) (by kernel_rfl) (zah (w' := ((((wd.setCell ⟨b, 8, none⟩ (.int .i64 (J.nth N 8))).setCell ⟨b, 9, none⟩ (.int .i64 (J.nth N 9))).setCell ⟨b, 10, none⟩ (.int .i64 (J.nth N 10))).setCell ⟨b, 11, none⟩ (.bool (J.nth N 11 == 1)))) rfl (by kernel_rfl) (J.exec_store (p := ⟨b, 8, none⟩) rfl (by kernel_rfl) (by kernel_rfl) (J.st4 HRd.out.k rfl ((J.nth N 8)) ((J.nth N 9)) ((J.nth N 10)) ((J.nth N 11 == 1)))) ⟨RS1, ?_⟩)
  refine wpAnyH_done (by kernel_rfl) ?_ _
  simp only [List.getElem_toArray, List.getElem_cons_succ, List.getElem_cons_zero, zc7, ztx, List.setIfInBounds_toArray, List.set_cons_succ, List.set_cons_zero]
  have HR4 := Zh hR
  have HF4 := Zh (HFd.out.trans hF)
  have HS4 := Zh (Nat.le_trans HSd.out hF.size)
  obtain ⟨w4, hw4⟩ : ∃ V, ((((wd.setCell ⟨b, 8, none⟩ (.int .i64 (J.nth N 8))).setCell ⟨b, 9, none⟩ (.int .i64 (J.nth N 9))).setCell ⟨b, 10, none⟩ (.int .i64 (J.nth N 10))).setCell ⟨b, 11, none⟩ (.bool (J.nth N 11 == 1))) = V := ⟨_, rfl⟩
  rw [hw4] at HR4 HF4 HS4 ⊢
  clear hw4 gst kst hR hF HRd HFd HSd
  have cn : w4.cell? ⟨gn, 12, none⟩ = some (.int .i64 (J.nth N 12)) := J.row_get HR4.out.n (by omega)
  have c12 := Zv HR4.out.k 12 (.int .i64 0)
  have f12 := HR4.out.k.frozen 12
  have gst := zf6 w4 b 12 (.int .i64 (J.nth N 12))
  have kst : Blok (w4.setCell ⟨b, 12, none⟩ (.int .i64 (J.nth N 12))) b 153 (Y.cs { J.s00 with d := ⟨J.nth N 0, J.nth N 1, J.nth N 2, J.nth N 3, J.nth N 4, J.nth N 5, J.nth N 6, J.nth N 7⟩, p := ⟨J.nth N 8, J.nth N 9, J.nth N 10, J.nth N 11 == 1⟩, now := J.nth N 12 } Y.a0 ++ [Value.slice (some ⟨gn, 0, none⟩) nn c2]).toArray := by
   have := HR4.out.k.set 12 (.int .i64 (J.nth N 12))
   simpa [Y.cs, Y.a0, J.s00] using this
  obtain ⟨hR, hF⟩ := J.rd_new HR4.out gst HS4.out kst ⟨rfl, rfl, rfl⟩
  obtain ⟨w5, hw5⟩ : ∃ V, w4.setCell ⟨b, 12, none⟩ (.int .i64 (J.nth N 12)) = V := ⟨_, rfl⟩
  rw [hw5] at hR hF
  have HR5 := Zh hR
  have HF5 := Zh (HF4.out.trans hF)
  have HS5 := Zh (Nat.le_trans HS4.out hF.size)
  have hs15 : ∀ w, (Instr.sliceAt 74 (.slice (some ⟨gn, 0, none⟩) nn c2) (some (.int .i64 15)) none none).run Tryz.prog w = .ok (.slice (slk 1 (some ⟨gn, 0, none⟩) 15 c2) (nn - 15) (c2 - 15)) w := fun w => hsl (some ⟨gn, 0, none⟩) nn c2 15 (by omega) w
  clear gst kst hR hF
  have hcap := J.row_cap HO.out
  go_wp2_with fail
  try rw [hw5]
  clear hw5 cn c12 f12 hs15
  go_loopw [7] (fun left wr => ∃ (k q c' : Nat) (a' a1 : Option Addr) (c1 : Nat), left = .slice a' q c' /\ 15 + 3 * k + q = nn /\ J.Rest gn (15 + 3 * k) q c' a' /\ Hid (J.Rd wr b H (J.stP N ((J.plsOf (N.drop 15)).take k)) ⟨a1, k, c1, none, 0, 0, none, 0, 0⟩ (some ⟨gn, 0, none⟩) nn c2 N) /\ Hid (J.Far b H w wr) /\ Hid (H <= wr.heap.size)) (fun left _ => J.lenV left)
  case atStart => exact ⟨0, nn - 15, c2 - 15, _, none, 0, rfl, by omega, J.Rest.next (o := 0) ⟨hcap, fun _ => rfl⟩ 15 (by omega) (by omega), HR5, HF5, HS5⟩
  case round =>
   obtain ⟨k, q, c', a', a1, c1, rfl, hkq, hrest, HRr, HFr, HSr⟩ := hrel
   by_cases hq0 : 0 < q
   ·have d3 : decide ((0 : Int) < (q : Int)) = true := by simp; omega
    have hq3 : 3 <= q := by omega
    obtain rfl := hrest.2 hq0
    obtain ⟨o, ho⟩ : ∃ o, 15 + 3 * k = o := ⟨_, rfl⟩
    have HX := Zh (J.plsOf_next (N := N) ho (by rw [HQ.out]; omega))
    have HRS := Zh (hrest.next 3 hq3 hq0)
    rw [ho] at HRS hkq hrest ⊢
    have k1 : (1 : Int) < q := by omega
    have k2 : (2 : Int) < q := by omega
    have k0 : (0 : Int) < q := by omega
    have hs3 : ∀ w, (Instr.sliceAt 74 (.slice (some ⟨gn, o, none⟩) q c') (some (.int .i64 3)) none none).run Tryz.prog w = .ok (.slice (slk 1 (some ⟨gn, o, none⟩) 3 c') (q - 3) (c' - 3)) w := fun w => hsl (some ⟨gn, o, none⟩) q c' 3 hq3 w
    clear hrest
    go_wp2_with fail
    refine Zd (fun w' => (∃ v : Value, Blok w' b 153 #[.int .i64 (J.nth N 0), .int .i64 (J.nth N 1), .int .i64 (J.nth N 2), .int .i64 (J.nth N 3), .int .i64 (J.nth N 4), .int .i64 (J.nth N 5), .int .i64 (J.nth N 6), .int .i64 (J.nth N 7), .int .i64 (J.nth N 8), .int .i64 (J.nth N 9), .int .i64 (J.nth N 10), .bool (J.nth N 11 == 1), .int .i64 (J.nth N 12), v, .slice none 0 0, .slice none 0 0, .slice (some ⟨gn, 0, none⟩) nn c2]) /\ w'.ownsRow H 3 1 (.slice (some ⟨gn, 0, none⟩) nn c2) nn (N.map (Value.int .i64))) (⟨⟨_, (HRr.out.below (zaa wr)).k⟩, (HRr.out.below (zaa wr)).n⟩) fun RS0 => ?_
    refine Zq 0 b 0 RS0 ?_
    refine Zq 1 b 0 RS0 ?_
    refine Zq 2 b 0 RS0 ?_
    refine Zq 3 b 0 RS0 ?_
    refine Zq 4 b 13 RS0 ?_
    refine tk 6 ((.slice (some ⟨gn, o, none⟩) q c')) RS0 ?_
    refine wpAnyH_take (i := 7) (v := .pointer (some ⟨gn, o, none⟩)) rfl (by kernel_rfl) (by kernel_rfl) (by kernel_rfl) (fun _ _ _ h => h) (.inl ⟨by kernel_rfl, fun w9 hS => by go_simp⟩) RS0 ?_
    refine Zl 8 (.int .i64 (J.nth N (o))) rfl (fun w9 hS => by
       have y := J.row_get hS.2 (i := o) (by omega)
       go_simp) RS0 ?_
    refine tk 9 ((.slice (some ⟨gn, o, none⟩) q c')) RS0 ?_
    refine wpAnyH_take (i := 10) (v := .pointer (some ⟨gn, o + 1, none⟩)) rfl (by kernel_rfl) (by kernel_rfl) (by kernel_rfl) (fun _ _ _ h => h) (.inl ⟨by kernel_rfl, fun w9 hS => by go_simp⟩) RS0 ?_
    refine Zl 11 (.int .i64 (J.nth N (o + 1))) rfl (fun w9 hS => by
       have y := J.row_get hS.2 (i := o + 1) (by omega)
       go_simp) RS0 ?_
    refine tk 12 ((.slice (some ⟨gn, o, none⟩) q c')) RS0 ?_
    refine wpAnyH_take (i := 13) (v := .pointer (some ⟨gn, o + 2, none⟩)) rfl (by kernel_rfl) (by kernel_rfl) (by kernel_rfl) (fun _ _ _ h => h) (.inl ⟨by kernel_rfl, fun w9 hS => by go_simp⟩) RS0 ?_
    refine Zl 14 (.int .i64 (J.nth N (o + 2))) rfl (fun w9 hS => by
       have y := J.row_get hS.2 (i := o + 2) (by omega)
       go_simp) RS0 ?_
    refine tk 15 (.agg #[.int .i64 (J.nth N (o)), .int .i64 (J.nth N (o + 1)), .int .i64 (J.nth N (o + 2))]) RS0 ?_
    have HRd := Zh (HRr.out.below (zaa wr))
    have HFd := Zh (HFr.out.trans (J.Far.of_below (zaa wr) HSr.out))
    have HSd := Zh (Nat.le_trans HSr.out (zaa wr).size)
    obtain ⟨wd, hwd⟩ : ∃ V, World.drew wr = V := ⟨_, rfl⟩
    rw [hwd] at RS0 HRd HFd HSd ⊢
    clear hwd
    have hba : Below wd.heap.size wd (wd.alloc (.cells #[.int .i64 (J.nth N o), .int .i64 (J.nth N (o + 1)), .int .i64 (J.nth N (o + 2))] 170)) := (Below.refl _ wd).alloc (Nat.le_refl _) _
    have HRa := Zh (HRd.out.below hba)
    have HFa := Zh (HFd.out.trans (J.Far.of_below hba HSd.out))
    have HSa := Zh (Nat.le_trans HSd.out hba.size)
    have HKa := Zh (Blok.new wd 170 #[.int .i64 (J.nth N o), .int .i64 (J.nth N (o + 1)), .int .i64 (J.nth N (o + 2))])
    have RSa : (fun w' => (∃ v : Value, Blok w' b 153 #[.int .i64 (J.nth N 0), .int .i64 (J.nth N 1), .int .i64 (J.nth N 2), .int .i64 (J.nth N 3), .int .i64 (J.nth N 4), .int .i64 (J.nth N 5), .int .i64 (J.nth N 6), .int .i64 (J.nth N 7), .int .i64 (J.nth N 8), .int .i64 (J.nth N 9), .int .i64 (J.nth N 10), .bool (J.nth N 11 == 1), .int .i64 (J.nth N 12), v, .slice none 0 0, .slice none 0 0, .slice (some ⟨gn, 0, none⟩) nn c2]) /\ w'.ownsRow H 3 1 (.slice (some ⟨gn, 0, none⟩) nn c2) nn (N.map (Value.int .i64))) (wd.alloc (.cells #[.int .i64 (J.nth N o), .int .i64 (J.nth N (o + 1)), .int .i64 (J.nth N (o + 2))] 170)) := ⟨⟨_, HRa.out.k⟩, HRa.out.n⟩
    obtain ⟨wa, hwa⟩ : ∃ V, wd.alloc (.cells #[.int .i64 (J.nth N o), .int .i64 (J.nth N (o + 1)), .int .i64 (J.nth N (o + 2))] 170) = V := ⟨_, rfl⟩
    rw [hwa] at HRa HFa HSa HKa RSa
    clear hba
    have dd := Zv HRd.out.k 13 (.slice a1 k c1)
    have da := Zv HRa.out.k 13 (.slice a1 k c1)
    refine za8 (i := 5) (j := 16) (by kernel_rfl) ?_ ?_
    ·skip
     refine zam (v := .slice a1 k c1) (w' := wd) rfl (by kernel_rfl) (by go_simp) ⟨RS0, ?_⟩
     refine zaf (i := 16) (by kernel_rfl) (zam (v := .slice (some ⟨wd.heap.size, 0, none⟩) 1 1) (w' := wa) rfl (by kernel_rfl) (by rw [<- hwa]; kernel_rfl) ⟨RSa, ?_⟩)
     refine zaf (i := 17) (by kernel_rfl) (znd rfl (by kernel_rfl) _ _ 33 (by rfl) H 170 i0 (.agg #[.int .i64 0, .int .i64 0, .int .i64 0]) 3 24 Tryz.underlying33 hi hz0 hz1 hz2 rfl (by decide) (.slice a1 k c1) k (O.flat ((J.plsOf (N.drop 15)).take k)) (by kernel_rfl) HRa.out.o.rp ⟨wd.heap.size, 0, none⟩ 1 1 [.int .i64 (J.nth N o), .int .i64 (J.nth N (o + 1)), .int .i64 (J.nth N (o + 2))] (by kernel_rfl) rfl (J.news_at HKa.out) (by simp [Value.oneCell']) (by unfold maxLen; omega) (by omega) HSa.out ?_)
     intro v3 w3 hown3 hgrow3
     obtain ⟨a3, c3, rfl⟩ := zd9 hown3
     obtain ⟨hR4, hF4, d3x, f3x⟩ := J.rd_pl HRa.out ⟨J.nth N o, J.nth N (o + 1), J.nth N (o + 2)⟩ hown3 hgrow3 HSa.out
     have hne : some b ≠ (Value.slice a1 k c1).ownBlock := fun e => by have h1 := (HRa.out.o.rp.lt b e.symm).1; have h2 := HRa.out.b; omega
     have RS3 : (fun w' => (∃ v : Value, Blok w' b 153 #[.int .i64 (J.nth N 0), .int .i64 (J.nth N 1), .int .i64 (J.nth N 2), .int .i64 (J.nth N 3), .int .i64 (J.nth N 4), .int .i64 (J.nth N 5), .int .i64 (J.nth N 6), .int .i64 (J.nth N 7), .int .i64 (J.nth N 8), .int .i64 (J.nth N 9), .int .i64 (J.nth N 10), .bool (J.nth N 11 == 1), .int .i64 (J.nth N 12), v, .slice none 0 0, .slice none 0 0, .slice (some ⟨gn, 0, none⟩) nn c2]) /\ w'.ownsRow H 3 1 (.slice (some ⟨gn, 0, none⟩) nn c2) nn (N.map (Value.int .i64))) w3 := ⟨⟨_, HRa.out.k.grown hgrow3 hne⟩, HRa.out.n.kept hgrow3 (J.apart HRa.out.n HRa.out.o.rp (by decide))⟩
     refine ⟨RS3, ?_⟩
     refine Zq 18 b 0 RS3 ?_
     refine Zq 19 b 0 RS3 ?_
     refine Zq 20 b 13 RS3 ?_
     have RS1 : (fun w' => (∃ v : Value, Blok w' b 153 #[.int .i64 (J.nth N 0), .int .i64 (J.nth N 1), .int .i64 (J.nth N 2), .int .i64 (J.nth N 3), .int .i64 (J.nth N 4), .int .i64 (J.nth N 5), .int .i64 (J.nth N 6), .int .i64 (J.nth N 7), .int .i64 (J.nth N 8), .int .i64 (J.nth N 9), .int .i64 (J.nth N 10), .bool (J.nth N 11 == 1), .int .i64 (J.nth N 12), v, .slice none 0 0, .slice none 0 0, .slice (some ⟨gn, 0, none⟩) nn c2]) /\ w'.ownsRow H 3 1 (.slice (some ⟨gn, 0, none⟩) nn c2) nn (N.map (Value.int .i64))) (w3.setCell ⟨b, 13, none⟩ (.slice a3 (k + 1) c3)) := ⟨⟨_, hR4.k⟩, hR4.n⟩
     refine zaf (i := 21) (by kernel_rfl) (zah (w' := w3.setCell ⟨b, 13, none⟩ (.slice a3 (k + 1) c3)) rfl (by kernel_rfl) (by go_simp) ⟨RS1, ?_⟩)
     refine wpAnyH_done (by kernel_rfl) ?_ _
     simp only [List.getElem_toArray, List.getElem_cons_succ, List.getElem_cons_zero, zc7, ztx, List.setIfInBounds_toArray, List.set_cons_succ, List.set_cons_zero]
     have HR7 : Hid (J.Rd (w3.setCell ⟨b, 13, none⟩ (.slice a3 (k + 1) c3)) b H (J.stP N ((J.plsOf (N.drop 15)).take (k + 1))) ⟨a3, k + 1, c3, none, 0, 0, none, 0, 0⟩ (some ⟨gn, 0, none⟩) nn c2 N) := Zh (by rw [List.take_add_one, HX.out, Option.toList_some]; exact hR4)
     have HF7 := Zh (HFa.out.trans hF4)
     have HS7 := Zh (Nat.le_trans HSa.out hF4.size)
     obtain ⟨w9, hw9⟩ : ∃ V, (w3.setCell ⟨b, 13, none⟩ (.slice a3 (k + 1) c3)) = V := ⟨_, rfl⟩
     rw [hw9] at HR7 HF7 HS7 ⊢
     clear hw9 hR4 hF4 d3x f3x hown3 hgrow3 dd da hne
     go_wp2
     go_roundw
     case rel => exact ⟨k + 1, q - 3, c' - 3, _, a3, c3, rfl, by omega, (by have e : 15 + 3 * (k + 1) = o + 3 := (by omega); rw [e]; exact HRS.out), HR7, HF7, HS7⟩
     case measure => show q - 3 < q; omega
    ·skip
     refine zam (v := .slice (some ⟨wd.heap.size, 0, none⟩) 1 1) (w' := wa) rfl (by kernel_rfl) (by rw [<- hwa]; kernel_rfl) ⟨RSa, ?_⟩
     refine zaf (i := 5) (by kernel_rfl) (zam (v := .slice a1 k c1) (w' := wa) rfl (by kernel_rfl) (by go_simp) ⟨RSa, ?_⟩)
     refine zaf (i := 17) (by kernel_rfl) (znd rfl (by kernel_rfl) _ _ 33 (by rfl) H 170 i0 (.agg #[.int .i64 0, .int .i64 0, .int .i64 0]) 3 24 Tryz.underlying33 hi hz0 hz1 hz2 rfl (by decide) (.slice a1 k c1) k (O.flat ((J.plsOf (N.drop 15)).take k)) (by kernel_rfl) HRa.out.o.rp ⟨wd.heap.size, 0, none⟩ 1 1 [.int .i64 (J.nth N o), .int .i64 (J.nth N (o + 1)), .int .i64 (J.nth N (o + 2))] (by kernel_rfl) rfl (J.news_at HKa.out) (by simp [Value.oneCell']) (by unfold maxLen; omega) (by omega) HSa.out ?_)
     intro v3 w3 hown3 hgrow3
     obtain ⟨a3, c3, rfl⟩ := zd9 hown3
     obtain ⟨hR4, hF4, d3x, f3x⟩ := J.rd_pl HRa.out ⟨J.nth N o, J.nth N (o + 1), J.nth N (o + 2)⟩ hown3 hgrow3 HSa.out
     have hne : some b ≠ (Value.slice a1 k c1).ownBlock := fun e => by have h1 := (HRa.out.o.rp.lt b e.symm).1; have h2 := HRa.out.b; omega
     have RS3 : (fun w' => (∃ v : Value, Blok w' b 153 #[.int .i64 (J.nth N 0), .int .i64 (J.nth N 1), .int .i64 (J.nth N 2), .int .i64 (J.nth N 3), .int .i64 (J.nth N 4), .int .i64 (J.nth N 5), .int .i64 (J.nth N 6), .int .i64 (J.nth N 7), .int .i64 (J.nth N 8), .int .i64 (J.nth N 9), .int .i64 (J.nth N 10), .bool (J.nth N 11 == 1), .int .i64 (J.nth N 12), v, .slice none 0 0, .slice none 0 0, .slice (some ⟨gn, 0, none⟩) nn c2]) /\ w'.ownsRow H 3 1 (.slice (some ⟨gn, 0, none⟩) nn c2) nn (N.map (Value.int .i64))) w3 := ⟨⟨_, HRa.out.k.grown hgrow3 hne⟩, HRa.out.n.kept hgrow3 (J.apart HRa.out.n HRa.out.o.rp (by decide))⟩
     refine ⟨RS3, ?_⟩
     refine Zq 18 b 0 RS3 ?_
     refine Zq 19 b 0 RS3 ?_
     refine Zq 20 b 13 RS3 ?_
     have RS1 : (fun w' => (∃ v : Value, Blok w' b 153 #[.int .i64 (J.nth N 0), .int .i64 (J.nth N 1), .int .i64 (J.nth N 2), .int .i64 (J.nth N 3), .int .i64 (J.nth N 4), .int .i64 (J.nth N 5), .int .i64 (J.nth N 6), .int .i64 (J.nth N 7), .int .i64 (J.nth N 8), .int .i64 (J.nth N 9), .int .i64 (J.nth N 10), .bool (J.nth N 11 == 1), .int .i64 (J.nth N 12), v, .slice none 0 0, .slice none 0 0, .slice (some ⟨gn, 0, none⟩) nn c2]) /\ w'.ownsRow H 3 1 (.slice (some ⟨gn, 0, none⟩) nn c2) nn (N.map (Value.int .i64))) (w3.setCell ⟨b, 13, none⟩ (.slice a3 (k + 1) c3)) := ⟨⟨_, hR4.k⟩, hR4.n⟩
     refine zaf (i := 21) (by kernel_rfl) (zah (w' := w3.setCell ⟨b, 13, none⟩ (.slice a3 (k + 1) c3)) rfl (by kernel_rfl) (by go_simp) ⟨RS1, ?_⟩)
     refine wpAnyH_done (by kernel_rfl) ?_ _
     simp only [List.getElem_toArray, List.getElem_cons_succ, List.getElem_cons_zero, zc7, ztx, List.setIfInBounds_toArray, List.set_cons_succ, List.set_cons_zero]
     have HR7 : Hid (J.Rd (w3.setCell ⟨b, 13, none⟩ (.slice a3 (k + 1) c3)) b H (J.stP N ((J.plsOf (N.drop 15)).take (k + 1))) ⟨a3, k + 1, c3, none, 0, 0, none, 0, 0⟩ (some ⟨gn, 0, none⟩) nn c2 N) := Zh (by rw [List.take_add_one, HX.out, Option.toList_some]; exact hR4)
     have HF7 := Zh (HFa.out.trans hF4)
     have HS7 := Zh (Nat.le_trans HSa.out hF4.size)
     obtain ⟨w9, hw9⟩ : ∃ V, (w3.setCell ⟨b, 13, none⟩ (.slice a3 (k + 1) c3)) = V := ⟨_, rfl⟩
     rw [hw9] at HR7 HF7 HS7 ⊢
     clear hw9 hR4 hF4 d3x f3x hown3 hgrow3 dd da hne
     go_wp2
     go_roundw
     case rel => exact ⟨k + 1, q - 3, c' - 3, _, a3, c3, rfl, by omega, (by have e : 15 + 3 * (k + 1) = o + 3 := (by omega); rw [e]; exact HRS.out), HR7, HF7, HS7⟩
     case measure => show q - 3 < q; omega
   ·have d3 : decide ((0 : Int) < (q : Int)) = false := by simp; omega
    obtain rfl : q = 0 := by omega
    go_wp2
    go_ret
    have hfull : (J.plsOf (N.drop 15)).take k = J.plsOf (N.drop 15) := List.take_of_length_le (by rw [J.plsOf_len k (N.drop 15) (by rw [List.length_drop, HQ.out]; omega)]; exact Nat.le_refl _)
    rw [hfull] at HRr
    exact ⟨true, J.stN N, _, _, nn, c2, N, rfl, HRr, HFr.out, ⟨rfl, rfl, fun h => by cases h⟩, fun _ => ⟨by omega, h400, HIN.out, rfl⟩, fun s hs hP => ⟨rfl, HW.out s hs hP⟩⟩
end Go.Proofs.YtnbkkjcmblfhpaaGreat
namespace Go.Proofs.YtnbkkjcmblfhpaaGreat
set_option maxHeartbeats 1000000
set_option maxRecDepth 100000
open Go.RowKit
theorem zqz (b H : Nat) (s : Y.St) (A : Y.A9) (an : Option Addr) (nn cn : Nat) (N : List Int) (pa : Option Addr) (pl pc : Nat) (P : List Int) (w : World) (hl : P.length = pl) (hR : zfv .u8 w pa pc P) (h : J.Rd w b H s A an nn cn N) (hH : H <= w.heap.size) (hn : A.nl <= 1000) :
  Calls Tryz.prog 115 #[.pointer (some ⟨b, 0, none⟩), .slice pa pl pc] w fun r w' => ∃ v, r = .returned (.bool v) /\ Hid (J.Rd w' b H (if v = true then { s with l := J.fm s.l ((Z.sums P).getD []) s.l.length } else s) A an nn cn N) /\ J.Far b H w w' /\ ∀ S, Z.sums P = some S -> S.length = s.l.length -> v = true := by
 obtain ⟨ap, np, cp, al, nl, cl, ah, nh, ch⟩ := A
 have HR := Zh h
 have HP := Zh hR
 have HL := Zh hl
 have HH := Zh hH
 have hm0 : nl <= 1000 := hn
 clear h hR hl hH hn
 have c14 := Zv HR.out.k 14 (.slice al nl cl)
 go_enter Tryz.func115, Tryz.ntmps115
 go_wp2_with fail
 refine (zqm pa pl pc P _ HL.out HP.out).mono ?_
 rintro e w1 ⟨v, ok, rfl, hok, hrow, hb⟩
 obtain ⟨a2, c2, rfl⟩ := zm9 hrow
 have HR1 := Zh (HR.out.below hb)
 have HF1 : Hid (J.Far b H w w1) := Zh (J.Far.of_below hb HH.out)
 have HS1 := Zh (Nat.le_trans HH.out hb.size)
 obtain ⟨S, hS⟩ : ∃ S, (Z.sums P).getD [] = S := ⟨_, rfl⟩
 rw [hS] at hrow ⊢
 have HO := Zh hrow
 have HOK := Zh hok
 have HSS := Zh hS
 clear hb hrow hok hS c14
 have c14 := Zv HR1.out.k 14 (.slice al nl cl)
 obtain ⟨q, hq⟩ : ∃ q, S.length = q := ⟨_, rfl⟩
 rw [hq] at HO ⊢
 have HQ := Zh hq
 clear hq
 cases ok with
 | false =>
  go_wp2
  go_ret
  exact ⟨false, rfl, HR1, HF1.out, fun S2 h2 _ => by have := HOK.out; rw [h2] at this; cases this⟩
 | true =>
  have hsome : Z.sums P = some S := by
   have h1 := HOK.out; have h2 := HSS.out
   cases hz : Z.sums P with
   | none => rw [hz] at h1; cases h1
   | some x => rw [hz] at h2; exact congrArg some h2
  have HSM := Zh hsome
  clear hsome
  by_cases hqm : q = nl
  rotate_left
  ·have d0 : ((q : Int) != (nl : Int)) = true := by simp; omega
   go_wp2
   go_ret
   exact ⟨false, rfl, HR1, HF1.out, fun S2 h2 hl2 => by
    rw [HSM.out] at h2; cases h2
    exact absurd (HQ.out.symm.trans (hl2.trans HR1.out.o.nl)) hqm⟩
  subst hqm
  go_wp2_with fail
  go_loopw [29] (fun i wr => ∃ k : Nat, i = .int .i64 k /\ k <= q /\ Hid (J.Rd wr b H { s with l := J.fm s.l S k } ⟨ap, np, cp, al, q, cl, ah, nh, ch⟩ an nn cn N) /\ Hid (wr.ownsRow H 3 1 (.slice a2 q c2) q (S.map (Value.int .i64))) /\ Hid (J.Far b H w wr) /\ Hid (H <= wr.heap.size)) (fun i _ => q - (intOf i).toNat)
  case atStart => exact ⟨0, rfl, by omega, HR1, Zh (zde HO.out HH.out), HF1, HS1⟩
  case round =>
   obtain ⟨k, rfl, hkm, HRr, HOr, HFr, HSr⟩ := hrel
   have v14 := Zv HRr.out.k 14 (.slice al q cl)
   by_cases hlt : k < q
   ·have d3 : decide ((k : Int) < q) = true := by simp; omega
    obtain ⟨z, hz⟩ : ∃ z, (J.fm s.l S k)[k]? = some z := ⟨_, List.getElem?_eq_getElem (by rw [HRr.out.o.nl]; exact hlt)⟩
    obtain ⟨g0, rfl⟩ : ∃ g0, al = some ⟨g0, 0, none⟩ := by
     obtain ⟨q', cp, e⟩ := J.row_some HRr.out.o.rl (by show 0 < q; omega)
     simp only [Value.slice.injEq] at e; exact ⟨q', e.1⟩
    obtain ⟨g2, rfl⟩ : ∃ g2, a2 = some ⟨g2, 0, none⟩ := by
     obtain ⟨q', cp, e⟩ := J.row_some HOr.out (by omega)
     simp only [Value.slice.injEq] at e; exact ⟨q', e.1⟩
    have hr := HRr.out.o.rl
    have cst : wr.cell? ⟨g0, k * 5 + 3, none⟩ = some (.int .i64 z.f) := by
     rw [hr.cellAt _ (by show k * 5 + 3 < q * 5; omega)]
     exact (L.flat_at (J.fm s.l S k) k z hz 3 (by decide)).trans rfl
    have fst := hr.frozenAt (k * 5 + 3)
    have hgb : g0 ≠ b := za4 hr HRr.out.k (by decide) rfl
    have cS : wr.cell? ⟨g2, k, none⟩ = some (.int .i64 (S.getD k 0)) := by
     rw [HOr.out.cellAt k (by omega)]
     have hk : k < S.length := by rw [HQ.out]; exact hlt
     simp [hk]
    obtain ⟨hst, gst⟩ := hr.stored (k * 5 + 3) (.int .i64 (S.getD k 0))
    rw [J.fset3 (S.getD k 0) (J.fm s.l S k) k z hz, J.fm_set hz] at hst
    have o := HRr.out.o
    have HR7 : Hid (J.Rd (wr.setCell ⟨g0, k * 5 + 3, none⟩ (.int .i64 (S.getD k 0))) b H { s with l := J.fm s.l S (k + 1) } ⟨ap, np, cp, some ⟨g0, 0, none⟩, q, cl, ah, nh, ch⟩ an nn cn N) := Zh ⟨HRr.out.k.grown gst (by simpa using hgb.symm), ⟨o.rp.kept gst (J.row_apart o.rp hr (by decide)), hst, o.rh.kept gst (J.row_apart o.rh hr (by decide)), o.np, by rw [J.fm_len, HR.out.o.nl], o.nh⟩, HRr.out.n.kept gst (J.row_apart HRr.out.n hr (by decide)), HRr.out.b⟩
    have HO7 := Zh (HOr.out.kept gst (J.row_apart HOr.out hr (by decide)))
    have HF7 := Zh (HFr.out.trans (J.Far.of_grown gst HSr.out (fun r e => by cases e; exact ⟨.inl (hr.lt g0 rfl).1, fun o ho => J.row_cells hr rfl ho⟩)))
    have HS7 := Zh (Nat.le_trans HSr.out gst.size)
    have i0 : (0 : Int) <= k := by omega
    have i1 : (k : Int) < q := by omega
    clear hst gst o hr hz hgb
    go_wp2
    go_roundw
    case rel => exact ⟨k + 1, by simp, by omega, HR7, HO7, HF7, HS7⟩
    case measure => simp [intOf]; omega
   ·have d3 : decide ((k : Int) < q) = false := by simp; omega
    obtain rfl : q = k := by omega
    go_wp2
    go_ret
    refine ⟨true, rfl, ?_, HFr.out, fun _ _ _ => rfl⟩
    rw [if_pos rfl, HSS.out, HR.out.o.nl]
    exact HRr
theorem zq0 (b H : Nat) (s : Y.St) (A : Y.A9) (an : Option Addr) (nn cn : Nat) (N : List Int) (pa : Option Addr) (pl pc : Nat) (P : List Int) (w : World) (hl : P.length = pl) (hR : zfv .u8 w pa pc P) (h : J.Rd w b H s A an nn cn N) (hH : H <= w.heap.size) (hn : A.nh <= 1000) :
  Calls Tryz.prog 117 #[.pointer (some ⟨b, 0, none⟩), .slice pa pl pc] w fun r w' => ∃ v, r = .returned (.bool v) /\ Hid (J.Rd w' b H (if v = true then { s with h := J.hm s.h ((Z.sums P).getD []) s.h.length } else s) A an nn cn N) /\ J.Far b H w w' /\ ∀ S, Z.sums P = some S -> S.length = s.h.length -> v = true := by
 obtain ⟨ap, np, cp, al, nl, cl, ah, nh, ch⟩ := A
 have HR := Zh h
 have HP := Zh hR
 have HL := Zh hl
 have HH := Zh hH
 have hm0 : nh <= 1000 := hn
 clear h hR hl hH hn
 have c15 := Zv HR.out.k 15 (.slice ah nh ch)
 go_enter Tryz.func117, Tryz.ntmps117
 go_wp2_with fail
 refine (zqm pa pl pc P _ HL.out HP.out).mono ?_
 rintro e w1 ⟨v, ok, rfl, hok, hrow, hb⟩
 obtain ⟨a2, c2, rfl⟩ := zm9 hrow
 have HR1 := Zh (HR.out.below hb)
 have HF1 : Hid (J.Far b H w w1) := Zh (J.Far.of_below hb HH.out)
 have HS1 := Zh (Nat.le_trans HH.out hb.size)
 obtain ⟨S, hS⟩ : ∃ S, (Z.sums P).getD [] = S := ⟨_, rfl⟩
 rw [hS] at hrow ⊢
 have HO := Zh hrow
 have HOK := Zh hok
 have HSS := Zh hS
 clear hb hrow hok hS c15
 have c15 := Zv HR1.out.k 15 (.slice ah nh ch)
 obtain ⟨q, hq⟩ : ∃ q, S.length = q := ⟨_, rfl⟩
 rw [hq] at HO ⊢
 have HQ := Zh hq
 clear hq
 cases ok with
 | false =>
  go_wp2
  go_ret
  exact ⟨false, rfl, HR1, HF1.out, fun S2 h2 _ => by have := HOK.out; rw [h2] at this; cases this⟩
 | true =>
  have hsome : Z.sums P = some S := by
   have h1 := HOK.out; have h2 := HSS.out
   cases hz : Z.sums P with
   | none => rw [hz] at h1; cases h1
   | some x => rw [hz] at h2; exact congrArg some h2
  have HSM := Zh hsome
  clear hsome
  by_cases hqm : q = nh
  rotate_left
  ·have d0 : ((q : Int) != (nh : Int)) = true := by simp; omega
   go_wp2
   go_ret
   exact ⟨false, rfl, HR1, HF1.out, fun S2 h2 hl2 => by
    rw [HSM.out] at h2; cases h2
    exact absurd (HQ.out.symm.trans (hl2.trans HR1.out.o.nh)) hqm⟩
  subst hqm
  go_wp2_with fail
  go_loopw [29] (fun i wr => ∃ k : Nat, i = .int .i64 k /\ k <= q /\ Hid (J.Rd wr b H { s with h := J.hm s.h S k } ⟨ap, np, cp, al, nl, cl, ah, q, ch⟩ an nn cn N) /\ Hid (wr.ownsRow H 3 1 (.slice a2 q c2) q (S.map (Value.int .i64))) /\ Hid (J.Far b H w wr) /\ Hid (H <= wr.heap.size)) (fun i _ => q - (intOf i).toNat)
  case atStart => exact ⟨0, rfl, by omega, HR1, Zh (zde HO.out HH.out), HF1, HS1⟩
  case round =>
   obtain ⟨k, rfl, hkm, HRr, HOr, HFr, HSr⟩ := hrel
   have v15 := Zv HRr.out.k 15 (.slice ah q ch)
   by_cases hlt : k < q
   ·have d3 : decide ((k : Int) < q) = true := by simp; omega
    obtain ⟨z, hz⟩ : ∃ z, (J.hm s.h S k)[k]? = some z := ⟨_, List.getElem?_eq_getElem (by rw [HRr.out.o.nh]; exact hlt)⟩
    obtain ⟨g0, rfl⟩ : ∃ g0, ah = some ⟨g0, 0, none⟩ := by
     obtain ⟨q', cp, e⟩ := J.row_some HRr.out.o.rh (by show 0 < q; omega)
     simp only [Value.slice.injEq] at e; exact ⟨q', e.1⟩
    obtain ⟨g2, rfl⟩ : ∃ g2, a2 = some ⟨g2, 0, none⟩ := by
     obtain ⟨q', cp, e⟩ := J.row_some HOr.out (by omega)
     simp only [Value.slice.injEq] at e; exact ⟨q', e.1⟩
    have hr := HRr.out.o.rh
    have cst : wr.cell? ⟨g0, k * 3 + 2, none⟩ = some (.int .i64 z.x) := by
     rw [hr.cellAt _ (by show k * 3 + 2 < q * 3; omega)]
     exact (L.flat_at (J.hm s.h S k) k z hz 2 (by decide)).trans rfl
    have fst := hr.frozenAt (k * 3 + 2)
    have hgb : g0 ≠ b := za4 hr HRr.out.k (by decide) rfl
    have cS : wr.cell? ⟨g2, k, none⟩ = some (.int .i64 (S.getD k 0)) := by
     rw [HOr.out.cellAt k (by omega)]
     have hk : k < S.length := by rw [HQ.out]; exact hlt
     simp [hk]
    obtain ⟨hst, gst⟩ := hr.stored (k * 3 + 2) (.int .i64 (S.getD k 0))
    rw [J.hset2 (S.getD k 0) (J.hm s.h S k) k z hz, J.hm_set hz] at hst
    have o := HRr.out.o
    have HR7 : Hid (J.Rd (wr.setCell ⟨g0, k * 3 + 2, none⟩ (.int .i64 (S.getD k 0))) b H { s with h := J.hm s.h S (k + 1) } ⟨ap, np, cp, al, nl, cl, some ⟨g0, 0, none⟩, q, ch⟩ an nn cn N) := Zh ⟨HRr.out.k.grown gst (by simpa using hgb.symm), ⟨o.rp.kept gst (J.row_apart o.rp hr (by decide)), o.rl.kept gst (J.row_apart o.rl hr (by decide)), hst, o.np, o.nl, by rw [J.hm_len, HR.out.o.nh]⟩, HRr.out.n.kept gst (J.row_apart HRr.out.n hr (by decide)), HRr.out.b⟩
    have HO7 := Zh (HOr.out.kept gst (J.row_apart HOr.out hr (by decide)))
    have HF7 := Zh (HFr.out.trans (J.Far.of_grown gst HSr.out (fun r e => by cases e; exact ⟨.inl (hr.lt g0 rfl).1, fun o ho => J.row_cells hr rfl ho⟩)))
    have HS7 := Zh (Nat.le_trans HSr.out gst.size)
    have i0 : (0 : Int) <= k := by omega
    have i1 : (k : Int) < q := by omega
    clear hst gst o hr hz hgb
    go_wp2
    go_roundw
    case rel => exact ⟨k + 1, by simp, by omega, HR7, HO7, HF7, HS7⟩
    case measure => simp [intOf]; omega
   ·have d3 : decide ((k : Int) < q) = false := by simp; omega
    obtain rfl : q = k := by omega
    go_wp2
    go_ret
    refine ⟨true, rfl, ?_, HFr.out, fun _ _ _ => rfl⟩
    rw [if_pos rfl, HSS.out, HR.out.o.nh]
    exact HRr
end Go.Proofs.YtnbkkjcmblfhpaaGreat
