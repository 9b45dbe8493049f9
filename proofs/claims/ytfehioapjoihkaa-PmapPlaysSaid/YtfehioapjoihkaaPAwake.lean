/- The contracts of drawbarlaw07.awake and of the law PmapNil. -/
import Derived.Test.YtfehioapjoihkaaPOn
namespace Go.Proofs.Ytfehioapjoihkaa
open Go.RowKit
open Drawbar Drawbar.Pm

/-- It answers true, and lays nothing but new memory. -/
def Yes (w : World) (e : Ending) (w' : World) : Prop := e = .returned (.bool true) ∧ Below w.heap.size w w'

/-- A map whose memory lies from block B on. -/
structure Mine (B : Nat) (w : World) (g pb cb : Nat) (s : St) : Prop where
  at_ : MapAt w g pb cb s
  g9 : B ≤ g
  p9 : B ≤ pb
  c9 : B ≤ cb
theorem Mine.below {B : Nat} {w w' : World} {g pb cb : Nat} {s : St} (h : Mine B w g pb cb s) (hb : Below w.heap.size w w') : Mine B w' g pb cb s := ⟨h.at_.below hb, h.g9, h.p9, h.c9⟩
theorem Mine.become {B : Nat} {w w' : World} {g pb cb : Nat} {s s' : St} (h : Mine B w g pb cb s) (hb : Become w g pb cb s' w') : Mine B w' g pb cb s' := ⟨hb.1, h.g9, h.p9, h.c9⟩
theorem Mine.low {B : Nat} {w w' : World} {g pb cb : Nat} {s s' : St} (h : Mine B w g pb cb s) (hb : Become w g pb cb s' w') (hB : B ≤ w.heap.size) : Below B w w' :=
  hb.2.toBelow (fun k hk => by rcases hk with rfl | rfl; exact h.p9; exact h.c9) hB
theorem Made.mine {w w' : World} {s : St} {e : Ending} (h : Made w s e w') : ∃ g pb cb, e = .returned (.tuple #[.pointer (some ⟨g, 0, none⟩), .int .i64 0]) ∧ Mine w.heap.size w' g pb cb s ∧ Below w.heap.size w w' := by
  obtain ⟨g, pb, cb, he, h1, h2, h3, h4, h5⟩ := h
  exact ⟨g, pb, cb, he, ⟨h1, h2, h3, h4⟩, h5⟩

set_option maxHeartbeats 1000000 in
theorem awake_any (w : World) : Calls Try.prog 11 #[] w (Yes w) := by
  have hn : Calls Try.prog 12 #[.int .i64 9, .int .i64 4] w (Made w (St.new 9 4)) := new_any 9 4 w (by omega) (by omega) (by omega) (by omega)
  have HN := Lib.hid hn
  clear hn
  go_enter Try.func11, Try.ntmps11
  go_wp2_with fail
  refine HN.out.mono ?_
  intro e w1 hm
  obtain ⟨g, pb, cb, rfl, h1, b1⟩ := hm.mine
  have hs : Calls Try.prog 14 #[.pointer (some ⟨g, 0, none⟩), .int .i64 3, .agg #[.int .i64 1, .int .i64 0]] w1 fun e w' => e = .returned (.int .i64 0) ∧ Become w1 g pb cb ((St.new 9 4).put 3 (some (1, 0))) w' := set_in h1.at_ 3 1 0 (by decide) (by decide) (by decide)
  have HS := Lib.hid hs
  clear hs hm HN
  go_wp2_with fail
  refine HS.out.mono ?_
  rintro e w2 ⟨rfl, hb2⟩
  have h2 := h1.become hb2
  have b2 := b1.trans (h1.low hb2 b1.size)
  have hs : Calls Try.prog 14 #[.pointer (some ⟨g, 0, none⟩), .int .i64 3, .agg #[.int .i64 2, .int .i64 5]] w2 fun e w' => e = .returned (.int .i64 0) ∧ Become w2 g pb cb (((St.new 9 4).put 3 (some (1, 0))).put 3 (some (2, 5))) w' := set_in h2.at_ 3 2 5 (by decide) (by decide) (by decide)
  rw [put_put] at hs
  have HT := Lib.hid hs
  clear hs HS h1 b1 hb2
  go_wp2_with fail
  refine HT.out.mono ?_
  rintro e w3 ⟨rfl, hb3⟩
  have h3 := h2.become hb3
  have b3 := b2.trans (h2.low hb3 b2.size)
  have hap : Apart ((St.new 9 4).put 3 (some (2, 5))) := (Apart.new 9 4).set 3 _ fun j _ h => by cases h
  have ho : Calls Try.prog 19 #[.pointer (some ⟨g, 0, none⟩), .int .i64 2] w3 (Ons ((St.new 9 4).put 3 (some (2, 5))) 2 w3) := on_in h3.at_ hap 2 (by decide)
  have HO := Lib.hid ho
  clear ho HT h2 b2 hb3 hap
  go_wp2_with fail
  refine HO.out.mono ?_
  rintro e w4 ⟨a, l, c, rfl, hrd, hperm, -, hb4⟩
  have e1 : ((St.new 9 4).put 3 (some (2, 5))).ons 2 = [3] := by decide
  rw [e1, List.perm_singleton] at hperm
  subst hperm
  have h4 := h3.below hb4
  have b4 := b3.trans (hb4.mono b3.size)
  obtain ⟨bb, off, rfl, hcell⟩ := hrd (by decide)
  have hc0 := hcell 0 (by decide)
  have e2 : ((St.new 9 4).put 3 (some (2, 5))).cnt 1 = 0 := by decide
  have hct := count_in h4.at_ 1 (by decide)
  rw [e2] at hct
  have hct2 : Calls Try.prog 17 #[.pointer (some ⟨g, 0, none⟩), .int .i64 1] w4 fun e w' => e = .returned (.int .i64 0) ∧ w4 = w' := hct
  have HC := Lib.hid hct2
  have hc1 : w4.cell? ⟨bb, off, none⟩ = some (.int .i64 3) := by simpa using hc0
  clear hct hct2 e1 e2 HO h3 b3 hb4 hrd hcell hc0
  go_wp2_with fail
  refine HC.out.mono ?_
  rintro e w5 ⟨rfl, rfl⟩
  go_wp2
  go_ret
  exact ⟨rfl, b4⟩

theorem nil_any (a b p : Int) (w : World) : Calls Try.prog 4 #[.int .i64 a, .agg #[.int .i64 b, .int .i64 p]] w (Yes w) := by
  go_enter Try.func4, Try.ntmps4
  go_wp2_with fail
  refine (get_nil a _).mono ?_
  rintro e w1 ⟨rfl, b1⟩
  have k1 : w1.cell? ⟨w.heap.size, 0, none⟩ = some (.int .i64 b) := by rw [b1.cell (by simp)]; simp
  have k2 : w1.cell? ⟨w.heap.size, 1, none⟩ = some (.int .i64 p) := by rw [b1.cell (by simp)]; simp
  have hz1 : w.heap.size + 1 ≤ w1.heap.size := by simpa using b1.size
  have c1 : Below w.heap.size w w1 := ((Below.refl _ _).alloc (Nat.le_refl _) _).trans (b1.mono (by simp))
  clear b1
  go_wp2_with fail
  refine (awake_any _).mono ?_
  rintro e w2 ⟨rfl, b2⟩
  have hz2 : w.heap.size + 1 < w2.heap.size := by have := b2.size; simp at this; omega
  have j1 : w2.cell? ⟨w.heap.size, 0, none⟩ = some (.int .i64 b) := by rw [b2.cell (p := ⟨w.heap.size, 0, none⟩) (by simp; omega)]; simpa using cell_alloc _ k1
  have j2 : w2.cell? ⟨w.heap.size, 1, none⟩ = some (.int .i64 p) := by rw [b2.cell (p := ⟨w.heap.size, 1, none⟩) (by simp; omega)]; simpa using cell_alloc _ k2
  have c2 : Below w.heap.size w w2 := c1.trans ((((Below.refl _ _).alloc (by omega) _)).trans (b2.mono (by simp; omega)))
  clear b2 k1 k2 c1 hz1
  go_wp2_with fail
  refine (set_nil a b p _).mono ?_
  rintro e w3 ⟨rfl, b3⟩
  have c3 : Below w.heap.size w w3 := c2.trans (b3.mono (by omega))
  clear b3 c2 j1 j2 hz2
  go_wp2_with fail
  refine (drop_nil a _).mono ?_
  rintro e w4 ⟨rfl, rfl⟩
  go_wp2_with fail
  refine (count_nil a _).mono ?_
  rintro e w4 ⟨rfl, rfl⟩
  go_wp2_with fail
  refine (len_nil _).mono ?_
  rintro e w4 ⟨rfl, rfl⟩
  go_wp2_with fail
  refine (on_nil a _).mono ?_
  rintro e w5 ⟨rfl, b5⟩
  have c5 : Below w.heap.size w w5 := c3.trans (b5.mono c3.size)
  clear b5 c3
  go_wp2
  go_ret
  exact ⟨rfl, c5⟩
end Go.Proofs.Ytfehioapjoihkaa
