import Derived.Test.YtijkbflimbffmaaGreatP30
import Derived.Test.YtijkbflimbffmaaGreatP42
import Derived.Test.YtijkbflimbffmaaGreatP6
import Derived.Test.YtijkbflimbffmaaGreatP20
namespace Go.Proofs.YtijkbflimbffmaaGreat
open Go.RowKit
theorem zny {w : World} {L : List Int} {t : Y.St} {A : Y.A9} (ht : (J.read L).getD J.s00 = t) (hi : Y.SIn w A t) : Y.Fits A t := by
 cases hr : J.read L with
 | some s =>
  rw [hr] at ht
  obtain rfl : s = t := ht
  exact J.may_fits (J.zc7.1 (J.read_some.1 hr)).1.1 hi
 | none =>
  rw [hr] at ht
  obtain rfl : J.s00 = t := ht
  have h1 : 0 = A.np := hi.p.1
  have h2 : 0 = A.nl := hi.l.1
  have h3 : 0 = A.nh := hi.h.1
  exact ⟨by omega, by omega, by omega, (fun x hx => by cases hx), by decide, by decide⟩
theorem J.own_row3 {k : IntKind} {w : World} {B e n : Nat} {v : Value} {L : List Int} (h : w.ownsRow B e 1 v n (L.map (Value.int k))) (hw : ∀ n ∈ L, (Lit.int k n).wf = true) : ∃ a cap, v = .slice a n cap /\ zfv k w a cap L /\ (a = none -> n = 0 /\ cap = 0) := by
 obtain ⟨a, c, rfl, hr⟩ := zsq h hw
 refine ⟨a, c, rfl, hr, ?_⟩
 rintro rfl
 rcases h.2 with ⟨he, h2⟩ | ⟨g, cap, cur, he, _⟩
 ·simp at he
  have := h.1
  simp at h2 this
  exact ⟨by omega, by omega⟩
 ·cases he
theorem zno (s : Y.St) (A : Y.A9) (b : List Int) (v : Bool) (hb : (J.put s).getD [] = b) (hv : (J.put s).isSome = v) (w : World) (h : Y.SIn w A s) (hf : Y.Fits A s) : Calls Tryz.prog 18 #[Y.val s A] w fun e w' => ∃ a c, e = .returned (.tuple #[.slice a b.length c, .bool v]) /\ Hid (zfv .u8 w' a c b) /\ Below w.heap.size w w' /\ (a = none -> b.length = 0 /\ c = 0) := by
 subst hb hv
 exact zn9 s A w h hf
theorem J.put_bd {s : Y.St} : ((J.put s).getD []).length <= 600 := by
 cases h : J.put s with
 | none => exact Nat.zero_le _
 | some b => have := J.zc7.1 h; rw [Option.getD_some, this.2]; exact J.bytes_len this.1.1
end Go.Proofs.YtijkbflimbffmaaGreat
namespace Go.Proofs.YtijkbflimbffmaaGreat
open Go.RowKit
end Go.Proofs.YtijkbflimbffmaaGreat
