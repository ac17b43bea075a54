/-
  reflectlite's ValueOf, Len and Swapper at a slice type, named or not.
-/
import Derived.Test.YtmegkfonodcoiaaSSort
import Derived.Test.YtmegkfonodcoiaaSLay
namespace Go.Proofs.Ytmegkfonodcoiaa
open Go.RowKit Go.Sort Go.Extern Go.Extern.Rtype

theorem kindOf {t u e : TypeId} {i : TypeInfo} (hu : ∀ w, (under t).run Try.prog w = .ok (u, i) w) (hd : i.desc = .slice e) (w : World) : (kind t).run Try.prog w = .ok 23 w := by
  simp [kind, hu, hd, Result.andThen]
theorem elemOf {t u e : TypeId} {i : TypeInfo} (hu : ∀ w, (under t).run Try.prog w = .ok (u, i) w) (hd : i.desc = .slice e) (w : World) : (elem? t).run Try.prog w = .ok (some e) w := by
  simp [elem?, hu, hd, Result.andThen]
theorem valueOf_at {t u e : TypeId} {i : TypeInfo} (hu : ∀ w, (under t).run Try.prog w = .ok (u, i) w) (hd : i.desc = .slice e) (p : Option Addr) (n c : Nat) (w : World) :
    (callFunc 39 #[.iface t (.slice p n c)]).run Try.prog w = .ok (.value (.agg #[typeHandle Try.prog t, .pointer (some ⟨w.heap.size, 0, none⟩), .int .u64 151])) (w.alloc (.cells #[.slice p n c] t)) := by
  rw [run_callFunc_extern Try.func39 (by kernel_rfl) (by kernel_rfl) (by kernel_rfl) (e := fun args => Extern.ReflectliteValue.unpack (args.getD 0 (.tuple #[]))) (by kernel_rfl)]
  show ((Extern.ReflectliteValue.unpack (.iface t (.slice p n c))).run Try.prog w).andThen _ = _
  simp [ReflectliteValue.unpack, ReflectliteValue.mk, newVar, newRow, handle, kindOf hu hd, Result.andThen, Value.cells, ReflectliteValue.flagIndir]
theorem len_at {t u e : TypeId} {i : TypeInfo} (hu : ∀ w, (under t).run Try.prog w = .ok (u, i) w) (hd : i.desc = .slice e) (hU : Try.prog.underlying t = some (.slice e)) (hpk : Try.prog.packed t = false) (a : Addr) (p : Option Addr) (n c : Nat) (w : World) (ha : w.cell? a = some (.slice p n c)) :
    (callFunc 40 #[.agg #[typeHandle Try.prog t, .pointer (some a), .int .u64 151]]).run Try.prog w = .ok (.value (.int .i64 n)) w := by
  rw [run_callFunc_extern Try.func40 (by kernel_rfl) (by kernel_rfl) (by kernel_rfl) (e := Extern.ReflectliteValue.method (Extern.ReflectliteValue.valueError "reflectlite.Value.Len" 0) Extern.ReflectliteValue.len) (by kernel_rfl)]
  rw [Lib.rl_method]
  simp only [Sem.run_bind, Lib.run_parts t a hpk w, Result.andThen]
  simp [ReflectliteValue.len, hu, hd, loadVar, isAgg, underlying, hU, ha, Builtin.len_, goInt, Result.andThen]
theorem swapper_at {t u e : TypeId} {i ie : TypeInfo} (hu : ∀ w, (under t).run Try.prog w = .ok (u, i) w) (hd : i.desc = .slice e) (hie : Try.prog.info? e = some ie) (ke : Nat) (hke : ∀ w, (kind e).run Try.prog w = .ok ke w)
    (p : Option Addr) (n c : Nat) (f : Nat) (hf : Try.prog.funcs.findIdx? (·.name == "internal/reflectlite" ++ ".Swapper$" ++ toString (Lib.swapperK n ie ke)) = some f) (w : World) :
    (callFunc 41 #[.iface t (.slice p n c)]).run Try.prog w
      = .ok (.value (.func (.func f) #[] (if Lib.swapperK n ie ke ≤ 2 then #[] else #[.slice p n c, typeHandle Try.prog e]))) w := by
  rw [run_callFunc_extern Try.func41 (by kernel_rfl) (by kernel_rfl) (by kernel_rfl) (e := Extern.ReflectliteSwapper.swapper "internal/reflectlite" (Extern.ReflectliteValue.valueError "Swapper")) (by kernel_rfl)]
  have h3 : (Extern.ReflectliteSwapper.swapper "internal/reflectlite" (Extern.ReflectliteValue.valueError "Swapper") #[.iface t (.slice p n c)]).run Try.prog w = .ok (.func (.func f) #[] (if Lib.swapperK n ie ke ≤ 2 then #[] else #[.slice p n c, typeHandle Try.prog e])) w := by
    rw [Lib.rl_swapper]
    simp only [Sem.run_bind, elemOf hu hd, Result.andThen, Lib.rl_info e ie hie, hke, handle, Sem.run_pure]
    change Sem.run Try.prog (ReflectliteSwapper.literal "internal/reflectlite" (Lib.swapperK n ie ke) (if Lib.swapperK n ie ke ≤ 2 then #[] else #[.slice p n c, typeHandle Try.prog e])) w = _
    simp at hf
    simp [ReflectliteSwapper.literal, hf, Result.andThen]
  rw [h3]
  rfl
theorem lenB_any (n : Nat) (w : World) (hn : n ≤ 1000000) : Calls Try.prog 42 #[.int .u64 n] w fun e w' => e = .returned (.int .i64 (Lib.bitLen n)) ∧ w' = w :=
  Go.Proofs.Any.bits_Len (LaysGg.n13.bits (P := Try.prog) { Try.srt6 with }) (n : Int) w (by omega) (by omega)

/-- The types of the two slices. -/
theorem under_timers (w : World) : (under 55).run Try.prog w = .ok (22, (Try.prog.info? 22).get (by kernel_rfl)) w := by kernel_rfl
theorem under_slice (w : World) : (under 22).run Try.prog w = .ok (22, (Try.prog.info? 22).get (by kernel_rfl)) w := by kernel_rfl
theorem desc_slice : ((Try.prog.info? 22).get (by kernel_rfl)).desc = .slice 40 := by kernel_rfl

set_option maxRecDepth 100000 in
set_option maxHeartbeats 1000000 in
/-- sort.Slice's own body, as far as pdqsort_func. -/
theorem slice_of_pdq (p : Option Addr) (n c f : Nat) (sb : Array Value) (lf : Fn) (la lb : Array Value) (w : World) (hn : n ≤ 1000)
    (hf : Try.prog.funcs.findIdx? (·.name == "internal/reflectlite" ++ ".Swapper$" ++ toString (Lib.swapperK n typeE 25)) = some f) (hsb : (if Lib.swapperK n typeE 25 ≤ 2 then #[] else #[.slice p n c, typeHandle Try.prog 40]) = sb) (R : World → Prop)
    (hp : ∀ W, Hid (w.grownBy W none) → Calls Try.prog 43 #[.agg #[.func lf la lb, .func (.func f) #[] sb], .int .i64 0, .int .i64 n, .int .i64 (Lib.bitLen n)] W fun e w' => e = .returned (.tuple #[]) ∧ R w') :
    Calls Try.prog 38 #[.iface 55 (.slice p n c), .func lf la lb] w fun e w' => e = .returned (.tuple #[]) ∧ R w' := by
  have e1 := valueOf_at under_timers desc_slice p n c w
  have e2 := fun W => swapper_at under_timers desc_slice (ie := typeE) (by kernel_rfl) 25 (fun _ => by kernel_rfl) p n c f hf W
  rw [hsb] at e2
  have e3 := fun W hW => len_at under_timers desc_slice Try.underlying55 (by kernel_rfl) ⟨w.heap.size, 0, none⟩ p n c W hW
  have wr : IntKind.u64.wrap (n : Int) = n := by simp [IntKind.wrap, IntKind.bits, IntKind.signed]; omega
  simp only [typeHandle] at e1 e3
  have hp' := Lib.hid hp
  clear hp hsb hf
  go_enter Try.func38, Try.ntmps38
  go_wp2_with fail
  rw [show Sem.run Try.prog (callFunc 40 #[.agg #[.pointer (some ⟨0, 55, none⟩), .pointer (some ⟨w.heap.size, 0, none⟩), .int .u64 151]]) _ = _ from e3 _ (by simp), Oper.upon_value]
  obtain ⟨W2, hW2⟩ : ∃ W2, (w.alloc (.cells #[.slice p n c] 55)).alloc (.cells #[.pointer (some ⟨0, 55, none⟩), .pointer (some ⟨w.heap.size, 0, none⟩), .int .u64 151] 64) = W2 := ⟨_, rfl⟩
  have G2 : Hid (w.grownBy W2 none) := Lib.hid (by rw [← hW2]; exact (World.grownBy_alloc _ _ _).trans (World.grownBy_alloc _ _ _))
  rw [hW2]
  clear hW2 e1 e2 e3
  go_wp2_with fail
  refine (lenB_any n W2 (by omega)).mono ?_
  rintro e w' ⟨rfl, rfl⟩
  go_wp2_with fail
  refine (hp'.out _ G2).mono ?_
  rintro e w' ⟨rfl, hR⟩
  go_wp2
  go_end0
  exact ⟨rfl, hR⟩
end Go.Proofs.Ytmegkfonodcoiaa
