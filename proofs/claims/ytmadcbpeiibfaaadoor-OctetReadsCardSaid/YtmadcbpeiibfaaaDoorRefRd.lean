/- The contracts of the document's reader (drawbarref01.Reader): it reads what octet's reader reads. -/
import Derived.Test.YtmadcbpeiibfaaaDoorEnds
import Derived.BigQuiet
import Derived.Test.YtmadcbpeiibfaaaDoorOpen
namespace Go.Proofs.YtmadcbpeiibfaaaDoor
open Go.RowKit
open Drawbar

/-- The document's Get: the number of at most eight bytes. -/
theorem refget_any (l : List Nat) (a : Option Addr) (cap : Nat) (w : World) (hr : Rd w a l) (h8 : l.length ≤ 8) :
    Calls Tryd.prog 33 #[.slice a l.length cap] w fun e w' => e = .returned (.int .u64 (Crc.le l : Nat)) ∧ w = w' := by
  obtain ⟨hl, hlen, hc⟩ := hr
  go_enter Tryd.func33, Tryd.ntmps33
  go_wp2
  go_loop [3, 4] (fun c i => ∃ k : Nat, k ≤ l.length ∧ i = .int .i64 ((k : Int) - 1) ∧ c = .int .u64 (Crc.le (l.drop k) : Nat)) (fun _ i => (intOf i + 1).toNat)
  case atStart => exact ⟨l.length, Nat.le_refl _, rfl, by simp [Crc.le]⟩
  case round =>
    obtain ⟨k, hk, rfl, rfl⟩ := hrel
    by_cases hlt : 0 < k
    · obtain ⟨b, off, rfl, hcell⟩ := hc (by omega)
      obtain ⟨j, rfl⟩ : ∃ j, k = j + 1 := ⟨k - 1, by omega⟩
      have h1 := hcell j (by omega)
      have hb : l.getD j 0 < 256 := hl _ (getD_mem l j (by omega))
      have hfin : Crc.le (l.drop j) = l.getD j 0 + 256 * Crc.le (l.drop (j + 1)) := by
        rw [List.drop_eq_getElem_cons (by omega : j < l.length)]
        simp only [Crc.le]
        rw [List.getD_eq_getElem?_getD, List.getElem?_eq_getElem (by omega)]; rfl
      have hlt2 : Crc.le (l.drop j) < 2 ^ 64 := by
        have := Crc.le_lt (l.drop j) (fun x hx => hl x (List.mem_of_mem_drop hx))
        exact Nat.lt_of_lt_of_le this (Nat.pow_le_pow_right (by omega) (by rw [List.length_drop]; omega))
      have HF := Lib.hid hfin
      clear hcell hc
      rw [hfin] at hlt2
      clear hfin
      generalize l.getD j 0 = b0 at h1 hb HF hlt2
      generalize Crc.le (l.drop (j + 1)) = c0 at HF hlt2
      go_wp2
      go_round
      case rel => exact ⟨j, by omega, by simp, by rw [HF.out]; simp; omega⟩
      case measure => simp [intOf]
    · obtain rfl : k = 0 := by omega
      clear hc
      go_wp2
      go_ret
      exact ⟨rfl, rfl⟩

/-- The document's reader in block h: all bytes, and the place; below 0 behind a fault. -/
def RRdr (w : World) (h B : Nat) (l : List Nat) (at' : Int) : Prop :=
  ∃ a cap, w.heap[h]? = some (.cells #[.slice a l.length cap, .int .i64 at'] 44 (0, 0)) ∧ l.length ≤ cap ∧ Rd w a l ∧ (0 < l.length → ∀ k, a = some k → k.block < B) ∧ B ≤ h

/-- How the two readers stand to one another. -/
def Sync (l rest : List Nat) (bad : Bool) (at' : Int) : Prop :=
  (bad = false ∧ ∃ k : Nat, at' = k ∧ k ≤ l.length ∧ rest = l.drop k) ∨ (bad = true ∧ at' = -1)

def RNum (w : World) (h B : Nat) (l : List Nat) (r : Nat × List Nat × Bool) (e : Ending) (w' : World) : Prop :=
  e = .returned (.int .u64 (r.1 : Nat)) ∧ ∃ at', RRdr w' h B l at' ∧ Sync l r.2.1 r.2.2 at' ∧ w.grownBy w' (some h)

theorem nm_bad (l : List Nat) (n : Int) (m : Nat) : nm l true n m = (0, l, true) := by
  have h1 : nx l true n 8 = ([], l, true) := by unfold nx; rw [if_pos (.inl rfl)]
  unfold nm; rw [h1]; dsimp only; rw [if_neg (by simp [Crc.le])]; simp [Crc.le]
theorem nm_few (l : List Nat) (n m : Nat) (h : l.length < n) : nm l false n m = (0, l, true) := by
  have h1 : nx l false n 8 = ([], l, true) := by unfold nx; rw [if_pos (by right; right; right; omega)]
  unfold nm; rw [h1]; dsimp only; rw [if_neg (by simp [Crc.le])]; simp [Crc.le]
theorem nm_ok (l : List Nat) (n m : Nat) (h : n ≤ l.length) (h8 : n ≤ 8) : nm l false n m = if m < Crc.le (l.take n) then (0, l.drop n, true) else (Crc.le (l.take n), l.drop n, false) := by
  have h1 : nx l false n 8 = (l.take n, l.drop n, false) := by
    unfold nx
    rw [if_neg (by simp only [Bool.false_eq_true, false_or]; omega)]; simp
  unfold nm; rw [h1]

theorem quiet_at {P : Program} {f : FuncId} {args : Array Value} {w : World} {q n : Nat} {v : Value}
    (h : Calls P f args (w.drewN (q + n)) fun e w' => e = .returned v ∧ w.drewN (q + n) = w') : Calls P f args (w.drewN (q + n)) fun e w'' => e = .returned v ∧ ∃ m, w'' = w.drewN (q + m) :=
  h.mono fun _ _ ⟨he, hm⟩ => ⟨he, n, hm.symm⟩

theorem RRdr.set {w : World} {h B : Nat} {l : List Nat} {at' : Int} (x : Int) (hr : RRdr w h B l at') : RRdr (w.setCell ⟨h, 1, none⟩ (.int .i64 x)) h B l x ∧ w.grownBy (w.setCell ⟨h, 1, none⟩ (.int .i64 x)) (some h) := by
  obtain ⟨a, cap, hb, hc, hrd, ha, hB⟩ := hr
  have hg := grownBy_setCell w h 1 (.int .i64 x)
  exact ⟨⟨a, cap, two_set1 hb, hc, hrd.grown hg (fun h0 k hk => Nat.ne_of_lt (Nat.lt_of_lt_of_le (ha h0 k hk) hB)), ha, hB⟩, hg⟩

theorem refnum_fault (h B : Nat) (l rest : List Nat) (at' : Int) (n : Nat) (most : Nat) (w : World) (hr : RRdr w h B l at') (hl : l.length ≤ 1000) (hn : n ≤ 8)
    (hf : at' < 0 ∨ (0 ≤ at' ∧ (l.length : Int) - at' < n)) (hup : at' ≤ 1000) (hlo : -1 ≤ at') :
    Calls Tryd.prog 26 #[.pointer (some ⟨h, 0, none⟩), .int .i64 n, .int .u64 most] w (RNum w h B l (0, rest, true)) := by
  have hset := RRdr.set (-1) hr
  obtain ⟨a, cap, hb, hc, hrd, ha, hB⟩ := hr
  obtain ⟨c0, c1, f0, f1⟩ := two_cells hb
  have hfin : ∀ q, RNum w h B l (0, rest, true) (.returned (.int .u64 0)) ((w.drewN q).setCell ⟨h, 1, none⟩ (.int .i64 (-1))) := fun q =>
    ⟨rfl, -1, hset.1, .inr ⟨rfl, rfl⟩, ⟨hset.2.os, hset.2.tape, hset.2.output, hset.2.size, hset.2.block⟩⟩
  have HF := Lib.hid hfin
  clear hset hfin hb hrd ha
  rcases hf with hf | ⟨hf0, hf⟩
  · have hd : decide (at' < 0) = true := by simpa using hf
    go_enter Tryd.func26, Tryd.ntmps26
    go_wp2_with fail
    go_quiet (fail)
    go_wp2
    go_ret
    exact HF.out _
  · have hd : decide (at' < 0) = false := by simp; omega
    go_enter Tryd.func26, Tryd.ntmps26
    go_wp2_with fail
    go_quiet (fail)
    go_wp2
    go_ret
    exact HF.out _

theorem refnum_ok (h B : Nat) (l : List Nat) (k n : Nat) (most : Nat) (w : World) (hr : RRdr w h B l k) (hl : l.length ≤ 1000) (hn : n ≤ 8) (hk : k + n ≤ l.length) :
    Calls Tryd.prog 26 #[.pointer (some ⟨h, 0, none⟩), .int .i64 n, .int .u64 most] w (RNum w h B l (nm (l.drop k) false n most)) := by
  rw [nm_ok _ _ _ (by rw [List.length_drop]; omega) hn]
  have hset := fun q => RRdr.set (w := w.drewN q) (k + n : Nat) hr
  have hset2 := fun q => RRdr.set (-1) (hset q).1
  obtain ⟨a, cap, hb, hc, hrd, ha, hB⟩ := hr
  obtain ⟨c0, c1, f0, f1⟩ := two_cells hb
  have htk : ((l.drop k).take n).length = n := by rw [List.length_take, List.length_drop]; omega
  have hx64 : Crc.le ((l.drop k).take n) < 2 ^ 64 := by
    have := Crc.le_lt ((l.drop k).take n) (fun x hx => hrd.1 x (List.mem_of_mem_drop (List.mem_of_mem_take hx)))
    exact Nat.lt_of_lt_of_le this (Nat.pow_le_pow_right (by omega) (by omega))
  have hget : ∀ q ad cp, (k < cap → ad = a.map fun x => x.add k) → Calls Tryd.prog 33 #[.slice ad n cp] (w.drewN q) fun e w' => e = .returned (.int .u64 (Crc.le ((l.drop k).take n) : Nat)) ∧ w.drewN q = w' := by
    intro q ad cp had
    have hrd2 : Rd (w.drewN q) ad ((l.drop k).take n) := by
      rcases Nat.eq_zero_or_pos n with h0 | h0
      · subst h0; rw [List.take_zero]; exact rd_empty _ _
      · obtain ⟨b, off, rfl, _⟩ := hrd.2.2 (by omega)
        rw [had (by omega), Option.map_some, Addr.add_lit]
        exact (hrd.drop k).take n
    have := refget_any _ ad cp (w.drewN q) hrd2 (by omega)
    rwa [htk] at this
  obtain ⟨res, hres, hy, hno⟩ : ∃ res, (if most < Crc.le ((l.drop k).take n) then (0, (l.drop k).drop n, true) else (Crc.le ((l.drop k).take n), (l.drop k).drop n, false)) = res ∧ (most < Crc.le ((l.drop k).take n) → res = (0, (l.drop k).drop n, true)) ∧ (¬ most < Crc.le ((l.drop k).take n) → res = (Crc.le ((l.drop k).take n), (l.drop k).drop n, false)) :=
    ⟨_, rfl, fun h => if_pos h, fun h => if_neg h⟩
  rw [hres]
  clear hres
  have hp1 : ∀ q, most < Crc.le ((l.drop k).take n) → RNum w h B l res (.returned (.int .u64 0)) (((w.drewN q).setCell ⟨h, 1, none⟩ (.int .i64 (k + n : Nat))).setCell ⟨h, 1, none⟩ (.int .i64 (-1))) := fun q hlt => by
    rw [hy hlt]
    have g1 : w.grownBy (w.drewN q) (some h) := ⟨rfl, rfl, rfl, Nat.le_refl _, fun _ _ _ => rfl⟩
    exact ⟨rfl, -1, (hset2 q).1, .inr ⟨rfl, rfl⟩, grownBy_trans g1 (grownBy_trans (hset q).2 (hset2 q).2)⟩
  have hp2 : ∀ q, ¬ most < Crc.le ((l.drop k).take n) → RNum w h B l res (.returned (.int .u64 (Crc.le ((l.drop k).take n) : Nat))) ((w.drewN q).setCell ⟨h, 1, none⟩ (.int .i64 (k + n : Nat))) := fun q hlt => by
    rw [hno hlt]
    have g1 : w.grownBy (w.drewN q) (some h) := ⟨rfl, rfl, rfl, Nat.le_refl _, fun _ _ _ => rfl⟩
    exact ⟨rfl, _, (hset q).1, .inl ⟨rfl, k + n, rfl, hk, by rw [List.drop_drop]⟩, grownBy_trans g1 (hset q).2⟩
  have hcap : k + n ≤ cap := by omega
  generalize Crc.le ((l.drop k).take n) = x at hget hp1 hp2 hx64
  have HG := Lib.hid hget
  have H1 := Lib.hid hp1
  have H2 := Lib.hid hp2
  clear hget hp1 hp2 hset hset2 hb hrd ha hy hno htk
  have hd : decide ((k : Int) < 0) = false := by simp
  have hd2 : decide ((l.length : Int) - (k : Int) < (n : Int)) = false := by simp; omega
  have hkn : IntKind.i64.wrap ((k : Int) + (n : Int)) = (k : Int) + (n : Int) := IntWalk.i64_in _ (by omega)
  have hlk : IntKind.i64.wrap ((l.length : Int) - (k : Int)) = (l.length : Int) - (k : Int) := IntWalk.i64_in _ (by omega)
  have hk0 : (0 : Int) ≤ (k : Int) := by omega
  have hkn0 : (k : Int) ≤ (k : Int) + (n : Int) := by omega
  have hkn1 : (k : Int) + (n : Int) ≤ (cap : Int) := by omega
  have hcc : (k < cap ∧ (cap = k) = False) ∨ cap = k := by
    rcases Nat.lt_or_ge k cap with h | h
    · exact .inl ⟨h, by simp; omega⟩
    · exact .inr (by omega)
  rcases hcc with ⟨h3, h4⟩ | h3
  · skip
    go_enter Tryd.func26, Tryd.ntmps26
    go_wp2_with fail
    go_quiet (fail)
    go_wp2_with fail
    go_quiet ((go_at_call 33; exact quiet_at (HG.out _ _ _ (fun _ => rfl))))
    simp only [World.drewN_drewN]
    by_cases hlt : most < x
    · have hd3 : (most : Int) < (x : Int) := by omega
      go_wp2
      go_ret
      exact H1.out _ hlt
    · have hd3 : ¬ (most : Int) < (x : Int) := by omega
      go_wp2
      go_ret
      exact H2.out _ hlt
  · obtain rfl : n = 0 := by omega
    obtain rfl : cap = k := h3
    have hz : ((cap : Int) + ((0 : Nat) : Int)).toNat = cap := by omega
    go_enter Tryd.func26, Tryd.ntmps26
    go_wp2_with fail
    go_quiet (fail)
    go_wp2_with fail
    go_quiet ((go_at_call 33; exact quiet_at (HG.out _ _ _ (fun h => absurd h (Nat.lt_irrefl _)))))
    simp only [World.drewN_drewN]
    by_cases hlt : most < x
    · have hd3 : (most : Int) < (x : Int) := by omega
      go_wp2
      go_ret
      exact H1.out _ hlt
    · have hd3 : ¬ (most : Int) < (x : Int) := by omega
      go_wp2
      go_ret
      exact H2.out _ hlt

theorem refnum_any (h B : Nat) (l rest : List Nat) (bad : Bool) (at' : Int) (n : Nat) (most : Nat) (w : World) (hr : RRdr w h B l at') (hl : l.length ≤ 1000) (hn : n ≤ 8) (hs : Sync l rest bad at') :
    Calls Tryd.prog 26 #[.pointer (some ⟨h, 0, none⟩), .int .i64 n, .int .u64 most] w (RNum w h B l (nm rest bad n most)) := by
  rcases hs with ⟨rfl, k, rfl, hk, rfl⟩ | ⟨rfl, rfl⟩
  · rcases Nat.lt_or_ge l.length (k + n) with hlt | hge
    · rw [nm_few _ _ _ (by rw [List.length_drop]; omega)]
      exact refnum_fault h B l _ k n most w hr hl hn (.inr ⟨by omega, by omega⟩) (by omega) (by omega)
    · exact refnum_ok h B l k n most w hr hl hn hge
  · rw [nm_bad]
    exact refnum_fault h B l rest (-1) n most w hr hl hn (.inl (by decide)) (by decide) (by decide)

/-- What the document's Bytes reads. -/
def RBts (w : World) (h B : Nat) (l : List Nat) (r : List Nat × List Nat × Bool) (e : Ending) (w' : World) : Prop :=
  ∃ a cap, e = .returned (.slice a r.1.length cap) ∧ Rd w' a r.1 ∧ (0 < r.1.length → ∀ k, a = some k → k.block < B) ∧ ∃ at', RRdr w' h B l at' ∧ Sync l r.2.1 r.2.2 at' ∧ w.grownBy w' (some h)

/-- Both ways to read a length, and the bytes behind it, come to the same. -/
theorem bts_eq (rest : List Nat) (bad : Bool) (most : Nat) (hl : ∀ x ∈ rest, x < 256) :
    bts rest bad most = if (nm rest bad 2 most).2.2 = true ∨ (nm rest bad 2 most).2.1.length < (nm rest bad 2 most).1 then ([], (nm rest bad 2 most).2.1, true)
      else ((nm rest bad 2 most).2.1.take (nm rest bad 2 most).1, (nm rest bad 2 most).2.1.drop (nm rest bad 2 most).1, false) := by
  cases bad with
  | true =>
    have h := nm_bad rest 2 most
    rw [h, bts_bad]; simp
  | false =>
    rcases Nat.lt_or_ge rest.length 2 with h | h
    · have h1 := nm_few rest 2 most h
      have h2 := nm_few rest 2 65535 h
      rw [show (((2 : Nat) : Int)) = 2 from rfl] at h1 h2
      unfold bts
      rw [h1, h2]
      dsimp only
      unfold nx
      rw [if_pos (.inl rfl), if_pos (.inl rfl)]
    · have h1 := nm_ok rest 2 most h (by decide)
      have h2 := nm_ok rest 2 65535 h (by decide)
      have hx : Crc.le (rest.take 2) < 65536 := by
        have := Crc.le_lt (rest.take 2) (fun x hx => hl x (List.mem_of_mem_take hx))
        exact Nat.lt_of_lt_of_le this (Nat.pow_le_pow_right (n := 2) (by omega) (show 8 * (rest.take 2).length ≤ 16 by rw [List.length_take]; omega))
      rw [show (((2 : Nat) : Int)) = 2 from rfl] at h1 h2
      rw [if_neg (by omega)] at h2
      unfold bts
      rw [h1, h2]
      dsimp only
      by_cases hb : most < Crc.le (rest.take 2)
      · rw [if_pos hb]
        unfold nx
        rw [if_pos (by right; right; left; omega), if_pos (.inl rfl)]
      · rw [if_neg hb]
        dsimp only
        unfold nx
        by_cases hc : (rest.drop 2).length < Crc.le (rest.take 2)
        · rw [if_pos (by right; right; right; omega), if_pos (.inr hc)]
        · rw [if_neg (by simp only [Bool.false_eq_true, false_or]; omega), if_neg (by simp only [Bool.false_eq_true, false_or]; exact hc)]
          simp
end Go.Proofs.YtmadcbpeiibfaaaDoor
