import Derived.Test.YtijkbflimbffmaaGreatP29
namespace Go.Proofs.YtijkbflimbffmaaGreat
open Go.RowKit
theorem zr3 (a : Option Addr) (len cap : Nat) (L : List Int) (w : World) (h9 : len <= 90000) (hlen : L.length = len) (h : zfv .u8 w a cap L) (hnil : a = none -> len = 0 /\ cap = 0) :
  Calls Tryz.prog 20 #[.slice a len cap] w fun e w' => ∃ A', e = .returned (.tuple #[Y.val ((J.read L).getD J.s00) A', .bool (J.read L).isSome]) /\ Hid (J.Got w' w.heap.size ((J.read L).getD J.s00) A') /\ Below w.heap.size w w' := (callsIn_wide (n := 8)).1 (zsl 8 (by omega) a len cap L w h9 hlen h hnil)
theorem znb (t : Y.St) (v : Bool) (a : Option Addr) (len cap : Nat) (L : List Int) (ht : (J.read L).getD J.s00 = t) (hv : (J.read L).isSome = v) (w : World) (h9 : len <= 90000) (hlen : L.length = len) (h : zfv .u8 w a cap L) (hnil : a = none -> len = 0 /\ cap = 0) :
  Calls Tryz.prog 20 #[.slice a len cap] w fun e w' => ∃ (xap : Option Addr) (xnp xcp : Nat) (xal : Option Addr) (xnl xcl : Nat) (xah : Option Addr) (xnh xch : Nat), e = .returned (.tuple #[.agg #[.int .i64 t.d.b, .int .i64 t.d.k, .int .i64 t.d.c, .int .i64 t.d.j, .int .i64 t.d.lo, .int .i64 t.d.hi, .int .i64 t.d.dy, .int .i64 t.d.bl, .int .i64 t.p.q, .int .i64 t.p.i, .int .i64 t.p.h, .bool t.p.pair, .int .i64 t.now, .slice xap xnp xcp, .slice xal xnl xcl, .slice xah xnh xch], .bool v]) /\ Hid (J.Got w' w.heap.size t ⟨xap, xnp, xcp, xal, xnl, xcl, xah, xnh, xch⟩) /\ Below w.heap.size w w' := by
 subst ht hv
 refine (zr3 a len cap L w h9 hlen h hnil).mono ?_
 rintro e w' ⟨⟨xap, xnp, xcp, xal, xnl, xcl, xah, xnh, xch⟩, rfl, hG, hb⟩
 exact ⟨xap, xnp, xcp, xal, xnl, xcl, xah, xnh, xch, rfl, hG, hb⟩
theorem znw (s : Y.St) (A : Y.A9) (b : List Int) (hp : J.put s = some b) (w : World) (h : Y.SIn w A s) (hf : Y.Fits A s) : Calls Tryz.prog 18 #[Y.val s A] w fun e w' => ∃ a c, e = .returned (.tuple #[.slice a b.length c, .bool true]) /\ Hid (zfv .u8 w' a c b) /\ Below w.heap.size w w' /\ (a = none -> b.length = 0 /\ c = 0) := by
 have := zn9 s A w h hf
 rw [hp] at this
 exact this
end Go.Proofs.YtijkbflimbffmaaGreat
