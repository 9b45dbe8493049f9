/- The contract of (*Array).Restart. -/
import Derived.Test.YtkapnpcolmhdbaaDoorNands
import Derived.Test.YtkapnpcolmhdbaaDoorNdWrite
namespace Go.Proofs.YtkapnpcolmhdbaaDoor.Nd
open Go.RowKit
open Drawbar Drawbar.Nand
section
variable {w : World} {F R : Nat → Prop} {g hb : Nat} {rows : Nat → Value} {pv : Nat → List Value} {bv : Value} {s : Arr}

set_option maxRecDepth 100000 in
/-- What Restart lays behind what it resumes. -/
theorem restart_tail {R' : Nat → Prop} {rows' : Nat → Value} {pv' : Nat → List Value} {w1 : World} {s1 : Arr} {F1 : Nat → Prop} (h : ArrIn w1 F1 R' g hb rows' pv' bv s1) :
    ArrIn (((((w1.setCell ⟨g, 4, none⟩ (.bool false)).setCell ⟨g, 5, none⟩ .nilFunc).setCell ⟨g, 3, none⟩ (.int .i64 0)).setCell ⟨g, 2, none⟩ (.int .u64 0)).setCell ⟨g, 6, none⟩ (.int .i64 (wrap64 (s1.boots + 1)))) F1 R' g hb rows' pv' .nilFunc
      { s1 with off := false, begun := .no, armed := 0, fence := 0, boots := wrap64 (s1.boots + 1) } := by
  obtain ⟨a1, a2, a3, a4, a5, a6, a7, a8⟩ := h.wf
  have h1 := h.setG 4 (.bool false) { s1 with off := false } bv (by omega) rfl rfl rfl ⟨a1, a2, a3, a4, a5, a6, a7, a8⟩ h.begun
  have h2 := h1.setG 5 .nilFunc { s1 with off := false, begun := .no } .nilFunc (by omega) rfl rfl rfl ⟨a1, a2, a3, a4, a5, a6, a7, a8⟩ rfl
  have h3 := h2.setG 3 (.int .i64 0) { s1 with off := false, begun := .no, armed := 0 } .nilFunc (by omega) rfl rfl rfl ⟨a1, a2, a3, a4, a5, by simp, a7, a8⟩ rfl
  have h4 := h3.setG 2 (.int .u64 0) { s1 with off := false, begun := .no, armed := 0, fence := 0 } .nilFunc (by omega) rfl rfl rfl ⟨a1, a2, a3, a4, by simp, by simp, a7, a8⟩ rfl
  exact h4.setG 6 (.int .i64 (wrap64 (s1.boots + 1))) { s1 with off := false, begun := .no, armed := 0, fence := 0, boots := wrap64 (s1.boots + 1) } .nilFunc (by omega) rfl rfl rfl ⟨a1, a2, a3, a4, by simp, by simp, a7, a8⟩ rfl

/-- The world behind Restart's stores. -/
def tail5 (w1 : World) (g : Nat) (bo : Int) : World := ((((w1.setCell ⟨g, 4, none⟩ (.bool false)).setCell ⟨g, 5, none⟩ .nilFunc).setCell ⟨g, 3, none⟩ (.int .i64 0)).setCell ⟨g, 2, none⟩ (.int .u64 0)).setCell ⟨g, 6, none⟩ (.int .i64 (wrap64 (bo + 1)))

set_option maxRecDepth 100000 in
theorem resume_rest (s : Arr) (cut : Int) : (s.resume cut).boots = s.boots ∧ (s.resume cut).n = s.n := by
  unfold Arr.resume; split <;> exact ⟨rfl, rfl⟩

set_option maxRecDepth 100000 in
theorem restart_fin (h : ArrIn w F R g hb rows pv bv s) (cut : Int) {w1 : World} (hbc : Become w F R g hb bv (s.resume cut) w1) : Did w F g (0, s.restart cut) (.returned (.int .i64 0)) (tail5 w1 g s.boots) := by
  obtain ⟨R', rows', pv', h1, k1, hR1⟩ := hbc
  have ht := restart_tail h1
  rw [(resume_rest s cut).1] at ht
  refine ⟨rfl, ⟨⟨(fun _ => rfl), (fun _ _ h => by cases h)⟩, R', hb, rows', pv', .nilFunc, ?_⟩, ?_⟩
  · unfold tail5
    rw [ext_setCell, ext_setCell, ext_setCell, ext_setCell, ext_setCell]
    exact ht
  · have hF : F g := h.rf _ h.rg
    have k : Keep F w w1 := ⟨k1.os, k1.tape, k1.output, k1.size, fun k hk hf => k1.block k hk fun hr => hf (h.rf _ hr)⟩
    exact ((((k.setCell hF _).setCell hF _).setCell hF _).setCell hF _).setCell hF _

set_option maxRecDepth 100000 in
/-- The cells that Restart's stores want. -/
theorem tail_cells {F1 R' : Nat → Prop} {rows' : Nat → Value} {pv' : Nat → List Value} {w1 : World} {s1 : Arr} (h : ArrIn w1 F1 R' g hb rows' pv' bv s1) :
    w1.cell? ⟨g, 4, none⟩ = some (.bool s1.off) ∧ w1.cell? ⟨g, 5, none⟩ = some bv ∧ w1.cell? ⟨g, 3, none⟩ = some (.int .i64 s1.armed) ∧ w1.cell? ⟨g, 2, none⟩ = some (.int .u64 s1.fence) ∧ w1.cell? ⟨g, 6, none⟩ = some (.int .i64 s1.boots) ∧ ∀ k, w1.frozen? ⟨g, k, none⟩ = false :=
  ⟨h.gc 4 _ rfl, h.gc 5 _ rfl, h.gc 3 _ rfl, h.gc 2 _ rfl, h.gc 6 _ rfl, h.gf⟩

set_option maxRecDepth 100000 in
theorem restart_no (h : ArrIn w F R g hb rows pv bv s) (cut : Int) (hb0 : s.begun = .no) :
    Calls Tryd.prog 26 #[.pointer (some ⟨g, 0, none⟩), .int .i64 cut] w (Did w F g (0, s.restart cut)) := by
  have hbv : bv = .nilFunc := by have := h.begun; rw [hb0] at this; exact this
  subst hbv
  have hfin := restart_fin h cut (w1 := w) (by rw [show s.resume cut = s by unfold Arr.resume; rw [hb0]]; exact Become.same h)
  have HF := Lib.hid hfin
  generalize Did w F g (0, s.restart cut) = P at HF ⊢
  obtain ⟨c4, c5, c3, c2, c6, hgf⟩ := tail_cells h
  have hnil : ∀ w : World, (binOp .neq 86 .nilFunc .nilFunc).run Tryd.prog w = .ok (.bool false) w := fun _ => by kernel_rfl
  clear h hfin hb0
  generalize s.boots = bo at *
  generalize s.off = so at *
  go_enter Tryd.func26, Tryd.ntmps26
  go_wp2
  exact HF.out

set_option maxRecDepth 100000 in
theorem restart_call (h : ArrIn w F R g hb rows pv bv s) (cut : Int) (K : Nat) (first caps : Array Value) (hbv : bv = .func (.func K) first caps) (heg : ∀ args W, (callFunc K args).run Tryd.prog W = .ok (.enter K args) W)
    (hcall : Calls Tryd.prog K (first ++ #[.int .i64 cut] ++ caps) w fun e w' => e = .returned (.tuple #[]) ∧ Become w F R g hb bv (s.resume cut) w') :
    Calls Tryd.prog 26 #[.pointer (some ⟨g, 0, none⟩), .int .i64 cut] w (Did w F g (0, s.restart cut)) := by
  subst hbv
  have hfin := fun w1 h1 => restart_fin h cut (w1 := w1) h1
  have HF := Lib.hid hfin
  generalize Did w F g (0, s.restart cut) = P at HF ⊢
  obtain ⟨c4, c5, c3, c2, c6, hgf⟩ := tail_cells h
  have hnil : ∀ w : World, (binOp .neq 86 (.func (.func K) first caps) .nilFunc).run Tryd.prog w = .ok (.bool true) w := fun _ => by kernel_rfl
  have hbo := (resume_rest s cut).1
  have HC := Lib.hid hcall
  have HBO := Lib.hid hbo
  clear h hfin hbo hcall c4 c3 c2 c6 hgf
  generalize s.boots = bo at *
  generalize s.resume cut = s1 at *
  go_enter Tryd.func26, Tryd.ntmps26
  go_wp2_with fail
  refine HC.out.mono ?_
  rintro e w1 ⟨rfl, hb1⟩
  have HP := Lib.hid (HF.out w1 hb1)
  obtain ⟨R', rows', pv', h1, -, -⟩ := hb1
  obtain ⟨c4, c5', c3, c2, c6, hgf⟩ := tail_cells h1
  rw [HBO.out] at c6
  clear h1 HF HC HBO c5
  generalize s1.off = so at *
  generalize s1.armed = sa at *
  generalize s1.fence = sf at *
  go_wp2
  exact HP.out

set_option maxRecDepth 100000 in
theorem restart_any (h : ArrIn w F R g hb rows pv bv s) (hid : Idle s) (cut : Int) :
    Calls Tryd.prog 26 #[.pointer (some ⟨g, 0, none⟩), .int .i64 cut] w (Did w F g (0, s.restart cut)) := by
  cases hbe : s.begun with
  | no => exact restart_no h cut hbe
  | lay i p =>
    have hbg := h.begun
    rw [hbe] at hbg
    obtain ⟨hi, x, y, v, hbv, hx, hy, hp, -⟩ := hbg
    have hc := prog1_any h i hi x y v p cut hx hy hp (hid.room i p hbe)
    rw [show ({ s with b := upd s.b i ((s.b i).lay p cut) } : Arr) = s.resume cut by unfold Arr.resume; rw [hbe]] at hc
    exact restart_call h cut _ _ _ hbv (fun _ _ => rfl) hc
  | erase i =>
    have hbg := h.begun
    rw [hbe] at hbg
    obtain ⟨hi, hbv⟩ := hbg
    have hc := erase_any h i hi cut
    rw [show ({ s with b := upd s.b i ((s.b i).erase cut) } : Arr) = s.resume cut by unfold Arr.resume; rw [hbe]] at hc
    exact restart_call h cut _ _ _ hbv (fun _ _ => rfl) hc
end
end Go.Proofs.YtkapnpcolmhdbaaDoor.Nd
