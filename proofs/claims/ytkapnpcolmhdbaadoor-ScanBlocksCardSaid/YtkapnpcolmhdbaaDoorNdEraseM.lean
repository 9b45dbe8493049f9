/- The contract of (*Array).Erase. -/
import Derived.Test.YtkapnpcolmhdbaaDoorNands
namespace Go.Proofs.YtkapnpcolmhdbaaDoor.Nd
open Go.RowKit
open Drawbar Drawbar.Nand
section
variable {w : World} {F R : Nat → Prop} {g hb : Nat} {rows : Nat → Value} {pv : Nat → List Value} {bv : Value} {s : Arr}

set_option maxRecDepth 100000 in
theorem erasem_out (h : ArrIn w F R g hb rows pv bv s) (hid : Idle s) (i : Int) (epoch : Nat) (hi : ¬ inB i s.n) :
    Calls Tryd.prog 23 #[.pointer (some ⟨g, 0, none⟩), .int .i64 i, .int .u64 epoch] w (Did w F g (1, s)) := by
  have hreach := reach_out g hb s.n i w (h.gc 0 _ rfl) h.wf.n64 hi
  have HR := Lib.hid hreach
  have HF := Lib.hid (did_same h hid 1 (Below.refl _ _))
  generalize Did w F g (1, s) = P at HF ⊢
  clear hreach h hid hi
  go_enter Tryd.func23, Tryd.ntmps23
  go_wp2_with fail
  refine HR.out.mono ?_
  rintro e w' ⟨rfl, rfl⟩
  go_wp2_with fail
  exact HF.out
set_option maxRecDepth 100000 in
theorem erasem_off (h : ArrIn w F R g hb rows pv bv s) (hid : Idle s) (i epoch : Nat) (hi : i < s.n) (hoff : s.off = true) :
    Calls Tryd.prog 23 #[.pointer (some ⟨g, 0, none⟩), .int .i64 i, .int .u64 epoch] w (Did w F g (9, s)) := by
  have hreach := reach_off g hb s.n i w (h.gc 0 _ rfl) h.wf.n64 hi (hoff ▸ h.gc 4 _ rfl)
  have HR := Lib.hid hreach
  have HF := Lib.hid (did_same h hid 9 (Below.refl _ _))
  generalize Did w F g (9, s) = P at HF ⊢
  clear hreach h hid hi
  go_enter Tryd.func23, Tryd.ntmps23
  go_wp2_with fail
  refine HR.out.mono ?_
  rintro e w' ⟨rfl, rfl⟩
  go_wp2_with fail
  exact HF.out
set_option maxRecDepth 100000 in
theorem erasem_fence (h : ArrIn w F R g hb rows pv bv s) (hid : Idle s) (i epoch : Nat) (hi : i < s.n) (hoff : s.off = false) (hf : epoch < s.fence) :
    Calls Tryd.prog 23 #[.pointer (some ⟨g, 0, none⟩), .int .i64 i, .int .u64 epoch] w (Did w F g (7, s)) := by
  have hreach := reach_in g hb s.n i w (h.gc 0 _ rfl) h.wf.n64 hi (hoff ▸ h.gc 4 _ rfl)
  have c2 := h.gc 2 _ rfl
  have hf2 : (epoch : Int) < (s.fence : Int) := by omega
  have HR := Lib.hid hreach
  have HF := Lib.hid (did_same h hid 7 (Below.refl _ _))
  generalize Did w F g (7, s) = P at HF ⊢
  clear hreach h hid hi
  go_enter Tryd.func23, Tryd.ntmps23
  go_wp2_with fail
  refine HR.out.mono ?_
  rintro e w' ⟨rfl, rfl⟩
  go_wp2_with fail
  exact HF.out
set_option maxRecDepth 100000 in
theorem erasem_main (h : ArrIn w F R g hb rows pv bv s) (hid : Idle s) (i epoch : Nat) (hi : i < s.n) (hoff : s.off = false) (hf : s.fence ≤ epoch) :
    Calls Tryd.prog 23 #[.pointer (some ⟨g, 0, none⟩), .int .i64 i, .int .u64 epoch] w (Did w F g (s.operate i (.erase i) (fun b => b.erase 96))) := by
  have hreach := reach_in g hb s.n i w (h.gc 0 _ rfl) h.wf.n64 hi (hoff ▸ h.gc 4 _ rfl)
  have c2 := h.gc 2 _ rfl
  have hf2 : ¬ (epoch : Int) < (s.fence : Int) := by omega
  have HR := Lib.hid hreach
  have hop := operate_any h i hi 60 #[.pointer (some ⟨hb, i * 6, none⟩)] #[] (fun _ _ => rfl) (.erase i) ⟨hi, rfl⟩ (fun b => b.erase 96) (by
    intro w4 h4 o4
    have hc := erase_any h4 i hi 96
    rw [show ({ s.tick i with b := upd (s.tick i).b i (((s.tick i).b i).erase 96) } : Arr) = { s.tick i with b := upd s.b i ((s.b i).tick.erase 96) } by
        unfold Arr.tick; dsimp only; rw [upd_same, upd_upd]] at hc
    exact hc)
  have hidr := idle_operate s i (.erase i) (fun b => b.erase 96) hid hoff (fun j p e => (by cases e))
  have hfin : ∀ e w', Oped w F R g hb (s.operate i (.erase i) (fun b => b.erase 96)) e w' → e = .returned (.int .i64 (s.operate i (.erase i) (fun b => b.erase 96)).1) ∧ Did w F g (s.operate i (.erase i) (fun b => b.erase 96)) (.returned (.int .i64 (s.operate i (.erase i) (fun b => b.erase 96)).1)) w' := by
    rintro e w' ⟨he, bv', hbc⟩
    exact ⟨he, become_did (Keep.refl F w) (ext_self F w).symm h.rf hbc hidr _⟩
  generalize s.operate i (.erase i) (fun b => b.erase 96) = r at *
  have HO := Lib.hid hop
  have HF := Lib.hid hfin
  generalize Did w F g r = P at HF ⊢
  clear hreach h hid hi hop hfin hidr
  go_enter Tryd.func23, Tryd.ntmps23
  go_wp2_with fail
  refine HR.out.mono ?_
  rintro e w' ⟨rfl, rfl⟩
  go_wp2_with fail
  refine HO.out.mono ?_
  intro e w' ho
  obtain ⟨rfl, hp⟩ := HF.out e w' ho
  clear ho
  go_wp2
  exact hp
end
end Go.Proofs.YtkapnpcolmhdbaaDoor.Nd
