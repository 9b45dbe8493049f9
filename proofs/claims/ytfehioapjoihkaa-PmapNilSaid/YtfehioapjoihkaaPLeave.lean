/- The contract of leave (package pmap): an address's page is no longer where it was. -/
import Derived.Test.YtfehioapjoihkaaPGet
import Derived.BigRegion
namespace Go.Proofs.Ytfehioapjoihkaa
open Go.RowKit
open Drawbar Drawbar.Pm

/-- The map has become s'; nothing else that was there has turned. -/
def Become (w : World) (g pb cb : Nat) (s' : St) (w' : World) : Prop := MapAt w' g pb cb s' ∧ Only (Two pb cb) w w'

theorem bcell {W w1 : World} (hb : Below W.heap.size W w1) : (∀ b o, b < W.heap.size → w1.cell? ⟨b, o, none⟩ = W.cell? ⟨b, o, none⟩) ∧ (∀ b o, b < W.heap.size → w1.frozen? ⟨b, o, none⟩ = W.frozen? ⟨b, o, none⟩) :=
  ⟨fun b o h => hb.cell (p := ⟨b, o, none⟩) h, fun b o h => hb.frozen (p := ⟨b, o, none⟩) h⟩

theorem MapAt.ofRaw {w : World} {g pb cb : Nat} {s : St} (h : MapAt w g pb cb s) {w' : World} {s' : St} (hn : s'.addrs = s.addrs) (hm : s'.blocks = s.blocks) (hwf : Wf s') (hg : w'.heap[g]? = w.heap[g]?) {pl : Nat → Int × Int} {ct : Nat → Int} (hr : Raw w' pb cb s.addrs s.blocks pl ct)
    (hp : ∀ k, k < s.addrs → pl k = (blkOf (s'.at_ k), pgOf (s'.at_ k))) (hc : ∀ b, b < s.blocks → ct b = s'.cnt b) : MapAt w' g pb cb s' :=
  ⟨hwf, by rw [hn]; exact (World.cell?_of_block (a := ⟨g, 0, none⟩) hg).trans h.c0, by rw [hm]; exact (World.cell?_of_block (a := ⟨g, 1, none⟩) hg).trans h.c1,
    ⟨fun k hk => by rw [hn] at hk; rw [← hp k hk]; exact hr.pl k hk, hr.pf, fun b hb => by rw [hm] at hb; rw [← hc b hb]; exact hr.ct b hb, hr.cf, hr.ne⟩, h.gp, h.gc⟩
theorem Become.alloc {w : World} {g pb cb : Nat} {s : St} {w' : World} (h : Become w g pb cb s w') (o : Obj) : Become w g pb cb s (w'.alloc o) := ⟨h.1.alloc o, h.2.alloc o⟩
theorem Become.drew {w : World} {g pb cb : Nat} {s : St} {w' : World} (h : Become w g pb cb s w') : Become w g pb cb s w'.drew := ⟨h.1.keep fun _ _ => rfl, h.2.drew⟩
theorem Become.of {w w1 : World} {g pb cb : Nat} {s : St} {w' : World} (h : Become w1 g pb cb s w') (hb : Below w.heap.size w w1) : Become w g pb cb s w' := ⟨h.1, (Only.below hb).trans h.2⟩
theorem Only.ofBelow {F : Nat → Prop} {w w1 w2 : World} (h : Below w.heap.size w w1) (h2 : Only F w1 w2) : Only F w w2 := (Only.below h).trans h2

section
variable {w : World} {g pb cb : Nat} {s : St}
/-- An address that had no page has none. -/
theorem MapAt.unput (h : MapAt w g pb cb s) (k : Nat) (hk : k < s.addrs) (hv : s.at_ k = none) : Become w g pb cb (s.put k none) ((w.setCell ⟨pb, k * 2, none⟩ (.int .i64 (-1))).setCell ⟨pb, k * 2 + 1, none⟩ (.int .i64 0)) := by
  have e : s.put k none = s := by rw [← hv]; exact put_id s k
  refine ⟨?_, ((Only.refl _ _).setCell (.inl rfl) _).setCell (.inl rfl) _⟩
  rw [e]
  refine h.ofRaw rfl rfl h.wf ((Below.heap_setCell _ _ _ _ h.gp).trans (Below.heap_setCell _ _ _ _ h.gp)) (h.raw.setPl k hk (-1) 0) (fun j _ => ?_) (fun b _ => rfl)
  by_cases e2 : j = k
  · subst e2; rw [if_pos rfl, hv]; rfl
  · rw [if_neg e2]
/-- An address's page is there no longer. -/
theorem MapAt.undo (h : MapAt w g pb cb s) (k : Nat) (hk : k < s.addrs) (b p : Nat) (hv : s.at_ k = some (b, p)) :
    Become w g pb cb (s.put k none) (((w.setCell ⟨cb, b, none⟩ (.int .i64 ((s.cnt b : Int) - 1))).setCell ⟨pb, k * 2, none⟩ (.int .i64 (-1))).setCell ⟨pb, k * 2 + 1, none⟩ (.int .i64 0)) := by
  refine ⟨?_, (((Only.refl _ _).setCell (.inr rfl) _).setCell (.inl rfl) _).setCell (.inl rfl) _⟩
  refine h.ofRaw rfl rfl (h.wf.put k hk none fun _ _ h => by cases h) ((Below.heap_setCell _ _ _ _ h.gp).trans ((Below.heap_setCell _ _ _ _ h.gp).trans (Below.heap_setCell _ _ _ _ h.gc))) ((h.raw.setCt b (h.wf.pl k b p hv).1 ((s.cnt b : Int) - 1)).setPl k hk (-1) 0) (fun j _ => ?_) (fun c hc => ?_)
  · by_cases e2 : j = k
    · subst e2; rw [if_pos rfl, put_same]; rfl
    · rw [if_neg e2, put_other _ _ _ _ e2]
  · have := cnt_put s k none hk c
    rw [hv] at this
    by_cases e2 : c = b
    · subst e2
      rw [if_pos rfl]
      simp [on] at this
      omega
    · rw [if_neg e2]
      simp [on, Ne.symm e2] at this
      omega
variable (h : MapAt w g pb cb s)
include h
set_option maxHeartbeats 2000000 in
theorem leave_any (k : Nat) (hk : k < s.addrs) : Calls Try.prog 30 #[.pointer (some ⟨g, 0, none⟩), .int .i64 k] w fun e w' => e = .returned (.tuple #[]) ∧ Become w g pb cb (s.put k none) w' := by
  have HG := Lib.hid (get_in h k hk)
  cases hv : s.at_ k with
  | none =>
    rw [hv, show told none = .tuple #[.agg #[.int .i64 0, .int .i64 0], .bool false] from rfl] at HG
    go_enter Try.func30, Try.ntmps30
    go_wp2_with fail
    (with_reducible refine HG.out.mono ?_)
    rintro e w1 ⟨rfl, hb1⟩
    have h1 := h.below hb1
    have HF := Lib.hid (((h1.unput k hk hv).of hb1).alloc (.cells #[.int .i64 0, .int .i64 0] 34))
    have c0 := h1.c0
    have pf := h1.raw.pf
    have hg := h1.gl
    have hp := h1.pbl
    have a9 := h1.wf.a9
    obtain ⟨p0, p1⟩ := h1.raw.pl k hk
    generalize s.addrs = n at *
    clear h1 h HG hb1 hv
    go_wp2
    go_end0
    exact ⟨rfl, HF.out⟩
  | some v =>
    obtain ⟨b, p⟩ := v
    rw [hv, show told (some (b, p)) = .tuple #[.agg #[.int .i64 b, .int .i64 p], .bool true] from rfl] at HG
    have hb := (h.wf.pl k b p hv).1
    go_enter Try.func30, Try.ntmps30
    go_wp2_with fail
    (with_reducible refine HG.out.mono ?_)
    rintro e w1 ⟨rfl, hb1⟩
    have h1 := h.below hb1
    have HF := Lib.hid (((h1.undo k hk b p hv).of hb1).alloc (.cells #[.int .i64 b, .int .i64 p] 34)).drew
    have c0 := h1.c0
    have c1 := h1.c1
    have pf := h1.raw.pf
    have cf := h1.raw.cf
    have ct := h1.raw.ct b hb
    have hg := h1.gl
    have hp := h1.pbl
    have hc := h1.cbl
    have a9 := h1.wf.a9
    have b9 := h1.wf.b9
    have hpc := h1.raw.ne
    have hgp := h1.gp
    have hgc := h1.gc
    have hx := cnt_le s b
    obtain ⟨p0, p1⟩ := h1.raw.pl k hk
    generalize s.addrs = n at *
    generalize s.blocks = m at *
    generalize s.cnt b = x at *
    clear h1 h HG hb1 hv
    go_wp2_with fail
    go_big_region
    go_wp2
    go_end0
    exact ⟨rfl, HF.out⟩
end
end Go.Proofs.Ytfehioapjoihkaa
