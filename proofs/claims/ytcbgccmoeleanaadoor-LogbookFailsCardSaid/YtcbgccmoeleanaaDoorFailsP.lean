/- What a claim does to an array one block of which fails, as plain mathematics. -/
import Derived.Test.YtcbgccmoeleanaaDoorUse
namespace Drawbar.Log
open Go.RowKit
open Go.Proofs.YtcbgccmoeleanaaDoor Drawbar Drawbar.Sheet Drawbar.Nand

/-- An array the block d of which may fail. -/
structure Inv2 (s : Arr) (n p d : Nat) (x : En) : Prop where
  nm : Nm s n p 0 0
  n2 : 2 ≤ n
  p1 : 1 ≤ p
  fit : ∀ i, i < 2 → i ≠ d → Fit (s.b i)
  torn : ∀ i, i < 2 → (s.b i).torn = false
  last : lst (s.b 0) (s.b 1) = x

theorem Inv2.open {s : Arr} {n p d : Nat} {x : En} (h : Inv2 s n p d x) : openS s = ((heldB (s.b 0), heldB (s.b 1)), 0) := by
  unfold openS
  rw [held_fit h.nm.off (fun ht => by rw [h.torn 0 (by omega)] at ht; cases ht), held_fit h.nm.off (fun ht => by rw [h.torn 1 (by omega)] at ht; cases ht), if_neg (fun h => h rfl), if_neg (fun h => h rfl)]
theorem Inv2.tells {s : Arr} {n p d : Nat} {x : En} (h : Inv2 s n p d x) : lastS s = (x, 0) := by
  unfold lastS
  rw [h.open]
  dsimp only
  rw [home_hom, get_hom _ _ (hom_lt _), ← h.last, lst_hom]
  rfl
theorem Inv2.ehom {s : Arr} {n p d : Nat} {x : En} (h : Inv2 s n p d x) : eB (s.b (hom s.b)) = x := by rw [← h.last, lst_hom]

/-- An operation at any block of an array that isn't armed. -/
theorem operate_soft {s : Arr} {n p : Nat} (h : Nm s n p 0 0) (i : Nat) (bg : Begun) (what : Blk → Blk) :
    ((s.b i).tick.fails = true ∧ ∃ s', s.operate i bg what = (8, s') ∧ Nm s' n p 0 0 ∧ s'.b = upd s.b i { (s.b i).tick with failed := true }) ∨
    ((s.b i).tick.fails = false ∧ ∃ s', s.operate i bg what = (0, s') ∧ Nm s' n p 0 0 ∧ s'.b = upd s.b i (what (s.b i).tick)) := by
  have ha : s.armed - 1 = 0 := by rw [h.m]
  unfold Arr.operate
  rw [if_neg (by rw [h.m]; omega)]
  cases hf : (s.b i).tick.fails with
  | true => exact .inl ⟨rfl, { s.tick i with b := upd s.b i { (s.b i).tick with failed := true } }, if_pos rfl, ⟨h.n, h.p, h.f, ha, h.off⟩, rfl⟩
  | false => exact .inr ⟨rfl, { s.tick i with b := upd s.b i (what (s.b i).tick) }, if_neg (by decide), ⟨h.n, h.p, h.f, ha, h.off⟩, rfl⟩
theorem soft_fit {b : Blk} (h : Fit b) : b.tick.fails = false := by rw [fit_tick h]; exact h.fails

/-- Programming a page of the block q. -/
theorem program_soft {s : Arr} {n p d : Nat} {x : En} (h : Inv2 s n p d x) (q : Nat) (hq : q < 2) (hlt : (s.b q).pages.length < p) (l : List Nat) (h96 : l.length = 96) (e : Nat) :
    ∃ r s' b', s.program q (s.b q).pages.length l e = (r, s') ∧ Nm s' n p 0 0 ∧ s'.b = upd s.b q b' ∧ (q ≠ d → Fit b') ∧ b'.torn = false ∧
      (r = 0 ∧ b'.pages = (s.b q).pages ++ [l] ∧ b'.failed = (s.b q).failed ∨ r = 8 ∧ q = d ∧ b'.pages = (s.b q).pages ++ [pad [] 96] ∧ b'.failed = true) := by
  have hn2 := h.n2
  have ht := h.torn q hq
  unfold Arr.program
  rw [if_neg (fun hh => hh (inB_nat (by rw [h.nm.n]; omega))), if_neg (by rw [h.nm.off]; simp), if_neg (fun hh => hh (inB_nat (by rw [h.nm.p]; exact hlt))), if_neg (by simp [h96])]
  simp only [Int.toNat_natCast]
  rw [if_neg (by simp [ht]), if_neg (by rw [h.nm.f]; omega)]
  rcases operate_soft h.nm q (.lay q l) (fun b => b.lay l 96) with ⟨hf, s', e1, e2, e3⟩ | ⟨hf, s', e1, e2, e3⟩
  · have hqd : q = d := by
      rcases Nat.decEq q d with hne | he
      · rw [soft_fit (h.fit q hq hne)] at hf; cases hf
      · exact he
    refine ⟨8, { s' with b := upd s'.b q ((s'.b q).lay [] 96) }, (s'.b q).lay [] 96, ?_, ⟨e2.n, e2.p, e2.f, e2.m, e2.off⟩, ?_, fun hne => absurd hqd hne, ?_, .inr ⟨rfl, hqd, ?_, ?_⟩⟩
    · rw [e1]; exact if_pos rfl
    · show upd s'.b q _ = _
      rw [e3, upd_upd]
    · rw [e3, upd_same]; exact ht
    · rw [e3, upd_same]; rfl
    · rw [e3, upd_same]; rfl
  · refine ⟨0, s', (s.b q).tick.lay l 96, ?_, e2, e3, fun hne => ?_, ht, .inl ⟨rfl, ?_, rfl⟩⟩
    · rw [e1]; exact if_neg (show ¬ (0 : Int) = 8 by decide)
    · have hfit := h.fit q hq hne
      rw [fit_tick hfit]
      exact ⟨hfit.doom, hfit.fails, fun _ => by show 0 < ((s.b q).pages ++ _).length; simp⟩
    · show (s.b q).pages ++ [pad l 96] = _
      rw [pad_full l 96 (by decide) h96]
theorem erase_soft {s : Arr} {n p d : Nat} {x : En} (h : Inv2 s n p d x) (q : Nat) (hq : q < 2) (e : Nat) :
    ∃ r s' b', s.erase q e = (r, s') ∧ Nm s' n p 0 0 ∧ s'.b = upd s.b q b' ∧ (q ≠ d → Fit b') ∧ b'.torn = false ∧
      (r = 0 ∧ b'.pages = [] ∧ b'.failed = (s.b q).failed ∨ r = 8 ∧ q = d ∧ b'.pages = (s.b q).pages ∧ b'.failed = true) := by
  have hn2 := h.n2
  have ht := h.torn q hq
  unfold Arr.erase
  rw [if_neg (fun hh => hh (inB_nat (by rw [h.nm.n]; omega))), if_neg (by rw [h.nm.off]; simp), if_neg (by rw [h.nm.f]; omega), Int.toNat_natCast]
  rcases operate_soft h.nm q (.erase q) (fun b => b.erase 96) with ⟨hf, s', e1, e2, e3⟩ | ⟨hf, s', e1, e2, e3⟩
  · have hqd : q = d := by
      rcases Nat.decEq q d with hne | he
      · rw [soft_fit (h.fit q hq hne)] at hf; cases hf
      · exact he
    exact ⟨8, s', _, e1, e2, e3, fun hne => absurd hqd hne, ht, .inr ⟨rfl, hqd, rfl, rfl⟩⟩
  · have he : (s.b q).tick.erase 96 = { (s.b q).tick with pages := [], torn := false, erases := wrap64 ((s.b q).tick.erases + 1) } := by
      unfold Blk.erase
      rw [if_neg (by decide), if_neg (by rw [hf]; simp)]
    refine ⟨0, s', (s.b q).tick.erase 96, e1, e2, e3, fun hne => ?_, by rw [he], .inl ⟨rfl, by rw [he], by rw [he]; rfl⟩⟩
    have hfit := h.fit q hq hne
    rw [he, fit_tick hfit]
    exact ⟨hfit.doom, hfit.fails, fun h => by cases h⟩

theorem hom_same (f : Nat → Blk) (q : Nat) (b' : Blk) (h : eB b' = eB (f q)) : hom (upd f q b') = hom f := by
  unfold hom
  have key : ∀ i, eB (upd f q b' i) = eB (f i) := fun i => by
    by_cases hi : i = q
    · subst hi; rw [upd_same, h]
    · rw [upd_other _ _ _ _ hi]
  rw [key 0, key 1]

/-- What a claim does. -/
def Out2 (s : Arr) (r : Int × Arr) (n p d : Nat) (x y : En) : Prop :=
  ∃ s', (r = (0, s') ∧ Inv2 s' n p d y ∧ ((s.b d).failed = true → (s'.b d).failed = true)) ∨ (r = (8, s') ∧ Inv2 s' n p d x ∧ (s'.b d).failed = true)
theorem inv2_upd {s s' : Arr} {n p d : Nat} {x z : En} (h : Inv2 s n p d x) (q : Nat) (b' : Blk) (h1 : Nm s' n p 0 0) (h2 : s'.b = upd s.b q b') (h3 : q ≠ d → Fit b') (h4 : b'.torn = false) (h5 : lst (upd s.b q b' 0) (upd s.b q b' 1) = z) : Inv2 s' n p d z := by
  refine ⟨h1, h.n2, h.p1, fun i hi hid => ?_, fun i hi => ?_, by rw [h2]; exact h5⟩
  · rw [h2]
    by_cases hiq : i = q
    · subst hiq; rw [upd_same]; exact h3 hid
    · rw [upd_other _ _ _ _ hiq]; exact h.fit i hi hid
  · rw [h2]
    by_cases hiq : i = q
    · subst hiq; rw [upd_same]; exact h4
    · rw [upd_other _ _ _ _ hiq]; exact h.torn i hi
theorem failed_upd {s : Arr} {d q : Nat} {b' : Blk} (h : b'.failed = (s.b q).failed) (hd : (s.b d).failed = true) : (upd s.b q b' d).failed = true := by
  by_cases hdq : d = q
  · subst hdq; rw [upd_same, h]; exact hd
  · rw [upd_other _ _ _ _ hdq]; exact hd

theorem begin_soft {s : Arr} {n p d : Nat} {x y : En} (h : Inv2 s n p d x) (hy : okE y = true) (hxy : x.e < y.e) : Out2 s (beginS s (1 - (hom s.b : Int)) y) n p d x y := by
  have hq := hom_lt s.b
  have ho := oth_lt (hom s.b)
  have hx := h.ehom
  have hy1 : 1 ≤ y.e := (of_decide_eq_true hy).1
  rw [oth_cast _ hq]
  unfold beginS
  obtain ⟨r, s1, b1, e1, e2, e3, e4, e5, e6⟩ := erase_soft h (oth (hom s.b)) ho y.e
  rw [e1]
  rcases e6 with ⟨rfl, e7, e8⟩ | ⟨rfl, e7, e8, e9⟩
  · dsimp only
    rw [if_pos rfl]
    have hz1 : eB b1 = En.z := eB_nil e7
    have h1 : Inv2 s1 n p d x := inv2_upd h (oth (hom s.b)) b1 e2 e3 e4 e5 (by rw [lst_none _ _ hz1, hx])
    have hlen : (s1.b (oth (hom s.b))).pages.length = 0 := by rw [e3, upd_same, e7]; rfl
    obtain ⟨r, s2, b2, g1, g2, g3, g4, g5, g6⟩ := program_soft h1 (oth (hom s.b)) ho (by rw [hlen]; exact h.p1) (pgE y) (pgE_length y) y.e
    rw [hlen] at g1
    have hub : upd s1.b (oth (hom s.b)) b2 = upd s.b (oth (hom s.b)) b2 := by rw [e3, upd_upd]
    have hpg : (s1.b (oth (hom s.b))).pages = [] := List.eq_nil_of_length_eq_zero hlen
    rw [hpg, List.nil_append] at g6
    have hb2 : ∀ l, b2.pages = [l] → eB b2 = up En.z (clm l) := fun l hl => by
      unfold eB
      rw [if_neg (by simp [g5]), hl]; rfl
    have g1' : s1.program (oth (hom s.b) : Int) 0 (pgE y) y.e = (r, s2) := g1
    rw [g1']
    rcases g6 with ⟨rfl, g7, g8⟩ | ⟨rfl, g7, g8, g9⟩
    · have hey : eB b2 = y := by rw [hb2 _ g7, clm_page hy]; exact up_gt hy1
      refine ⟨s2, .inl ⟨rfl, inv2_upd h (oth (hom s.b)) b2 g2 (g3.trans hub) g4 g5 (by rw [lst_other _ _ (by rw [hx, hey]; exact hxy), hey]), fun hd => ?_⟩⟩
      rw [g3]
      exact failed_upd g8 (by rw [e3]; exact failed_upd e8 hd)
    · have hez : eB b2 = En.z := by rw [hb2 _ g8, clm_none]; rfl
      refine ⟨s2, .inr ⟨rfl, inv2_upd h (oth (hom s.b)) b2 g2 (g3.trans hub) g4 g5 (by rw [lst_none _ _ hez, hx]), ?_⟩⟩
      rw [g3, ← g7, upd_same]; exact g9
  · dsimp only
    rw [if_neg (show ¬ (8 : Int) = 0 by decide)]
    have hee : eB b1 = eB (s.b (oth (hom s.b))) := by
      unfold eB
      rw [if_neg (by simp [e5]), if_neg (by simp [h.torn _ ho]), e8]
    refine ⟨s1, .inr ⟨rfl, inv2_upd h (oth (hom s.b)) b1 e2 e3 e4 e5 ?_, by rw [e3, ← e7, upd_same]; exact e9⟩⟩
    have key : ∀ i, eB (upd s.b (oth (hom s.b)) b1 i) = eB (s.b i) := fun i => by
      by_cases hi : i = oth (hom s.b)
      · rw [hi, upd_same, hee]
      · rw [upd_other _ _ _ _ hi]
    have hl := h.last
    unfold lst at hl ⊢
    rw [key 0, key 1]
    exact hl

theorem goOn_soft {n p d : Nat} {x y : En} (hy : okE y = true) (hxy : x.e < y.e) : ∀ (k : Nat) (s : Arr) (q : Nat), Inv2 s n p d x → hom s.b = q → p - (s.b q).pages.length = k → Out2 s (goOnS y q k (s.b q).pages.length s) n p d x y := by
  intro k
  induction k with
  | zero =>
    rintro s q h rfl _
    exact begin_soft h hy hxy
  | succ k ih =>
    rintro s q h hq hk
    have hq2 : q < 2 := hq ▸ hom_lt s.b
    have hx := h.ehom
    rw [hq] at hx
    obtain ⟨r, s1, b1, e1, e2, e3, e4, e5, e6⟩ := program_soft h q hq2 (by omega) (pgE y) (pgE_length y) y.e
    unfold goOnS
    rw [e1]
    dsimp only
    have happ : ∀ l, b1.pages = (s.b q).pages ++ [l] → eB b1 = up x (clm l) := fun l hl => by
      rw [eB_app l hl (e5.trans (h.torn q hq2).symm) (h.torn q hq2), hx]
    rcases e6 with ⟨rfl, e7, e8⟩ | ⟨rfl, e7, e8, e9⟩
    · rw [if_neg (show ¬ (0 : Int) = 8 by decide)]
      have hey : eB b1 = y := by rw [happ _ e7, clm_page hy]; exact up_gt hxy
      refine ⟨s1, .inl ⟨rfl, inv2_upd h q b1 e2 e3 e4 e5 ?_, fun hd => by rw [e3]; exact failed_upd e8 hd⟩⟩
      subst hq
      rw [lst_home _ _ (.inr (by rw [hx, hey]; exact hxy)), hey]
    · rw [if_pos rfl]
      have hex : eB b1 = eB (s.b q) := by rw [happ _ e8, clm_none, hx]; exact up_z _ _ rfl
      have h1 : Inv2 s1 n p d x := inv2_upd h q b1 e2 e3 e4 e5 (by subst hq; rw [lst_home _ _ (.inl hex), hex, hx])
      have hlen : (s1.b q).pages.length = (s.b q).pages.length + 1 := by rw [e3, upd_same, e8]; simp
      have key := ih s1 q h1 (by rw [e3, hom_same _ _ _ hex]; exact hq) (by omega)
      rw [hlen] at key
      have hfd : (s1.b d).failed = true := by rw [e3, ← e7, upd_same]; exact e9
      obtain ⟨s2, ⟨k1, k2, k3⟩ | ⟨k1, k2, k3⟩⟩ := key
      · exact ⟨s2, .inl ⟨k1, k2, fun _ => k3 hfd⟩⟩
      · exact ⟨s2, .inr ⟨k1, k2, k3⟩⟩

theorem claim_soft {s : Arr} {n p d : Nat} {x y : En} (h : Inv2 s n p d x) (hy : okE y = true) (hxy : x.e < y.e) : Out2 s (claimS s y) n p d x y := by
  have hq := hom_lt s.b
  have hx := h.ehom
  unfold claimS
  rw [if_neg (by rw [hy]; decide), h.open]
  dsimp only
  rw [if_neg (fun h => h rfl), home_hom, get_hom _ _ hq, if_neg (by show ¬ y.e ≤ (eB _).e; rw [hx]; omega)]
  have ht : (heldB (s.b (hom s.b))).torn = false := h.torn _ hq
  rw [if_neg (by rw [ht]; decide), h.nm.p]
  exact goOn_soft hy hxy _ s _ h rfl rfl
theorem inv2_new (p d D : Nat) (hp : 1 ≤ p) : Inv2 { Arr.new 2 p (fun _ => fresh) with b := upd (fun _ => fresh) d { fresh with doom := D } } 2 p d En.z := by
  refine ⟨⟨rfl, rfl, rfl, rfl, rfl⟩, by omega, hp, fun i _ hid => ?_, fun i _ => ?_, ?_⟩
  · show Fit (upd (fun _ => fresh) d { fresh with doom := D } i)
    rw [upd_other _ _ _ _ hid]; exact fit_fresh
  · show (upd (fun _ => fresh) d { fresh with doom := D } i).torn = false
    by_cases h : i = d
    · subst h; rw [upd_same]; rfl
    · rw [upd_other _ _ _ _ h]; rfl
  · have key : ∀ i, eB (upd (fun _ => fresh) d { fresh with doom := D } i) = En.z := fun i => by
      by_cases h : i = d
      · subst h; rw [upd_same]; exact eB_nil rfl
      · rw [upd_other _ _ _ _ h]; exact eB_nil rfl
    show lst (upd (fun _ => fresh) d { fresh with doom := D } 0) (upd (fun _ => fresh) d { fresh with doom := D } 1) = _
    unfold lst
    rw [key 0, key 1]
    exact if_neg (by decide)
end Drawbar.Log
