/- What a claim does to an array, as plain mathematics. -/
import Derived.Test.YtcbgccmoeleanaaDoorClaim
namespace Drawbar.Log
open Go.RowKit
open Go.Proofs.YtcbgccmoeleanaaDoor Drawbar Drawbar.Sheet Drawbar.Nand

theorem pad_full (l : List Nat) (cut : Int) (h : 96 ≤ cut) (h96 : l.length = 96) : pad l cut = l := by
  unfold pad
  have e : l.take cut.toNat = l := List.take_of_length_le (by omega)
  rw [e, h96]
  simp
theorem pad_last (l : List Nat) (cut : Int) (h : cut < 96) : (pad l cut).getD 95 0 = 255 := by
  unfold pad
  have hl : (l.take cut.toNat).length ≤ 95 := by rw [List.length_take]; omega
  rw [List.getD_eq_getElem?_getD, List.getElem?_append_right hl, List.getElem?_replicate, if_pos (by omega)]
  rfl
theorem clm_pad {y : En} (hy : okE y = true) (cut : Int) : clm (pad (pgE y) cut) = y ∨ clm (pad (pgE y) cut) = En.z := by
  by_cases h : 96 ≤ cut
  · rw [pad_full _ _ h (pgE_length y)]; exact .inl (clm_page hy)
  · exact .inr (clm_last (by rw [pad_last _ _ (by omega)]; decide))
theorem clm_none : clm (pad [] 96) = En.z := clm_last (by decide)

/-- The claim that a block holds. -/
noncomputable def eB (b : Blk) : En := if b.torn = true then En.z else best b.pages
/-- A block that doesn't fail, and is torn only where it has pages. -/
structure Fit (b : Blk) : Prop where
  doom : b.doom = 0
  fails : b.fails = false
  tp : b.torn = true → 0 < b.pages.length
theorem fit_fresh : Fit fresh := ⟨rfl, rfl, fun h => by cases h⟩
theorem fit_tick {b : Blk} (h : Fit b) : b.tick = b := by
  obtain ⟨h1, h2, _⟩ := h
  obtain ⟨a, t, e, d, f, g⟩ := b
  dsimp only at h1 h2
  subst h1 h2
  rfl
noncomputable def heldB (b : Blk) : Hd := ⟨eB b, b.torn⟩
theorem held_fit {s : Arr} {i : Nat} (hoff : s.off = false) (ht : (s.b i).torn = true → 0 < (s.b i).pages.length) : heldS s i = (heldB (s.b i), 0) := by
  unfold heldS heldB eB
  by_cases h0 : (s.b i).pages.length = 0
  · have e : (s.b i).torn = false := by
      cases h : (s.b i).torn with
      | false => rfl
      | true => have := ht h; omega
    rw [if_pos h0, if_neg (by simp [e]), List.eq_nil_of_length_eq_zero h0, e]
    rfl
  · rw [if_neg h0, if_neg (by simp [hoff])]
    by_cases h1 : (s.b i).torn = true
    · rw [if_pos h1, if_pos h1, h1]
    · rw [if_neg h1, if_neg h1]
      have e : (s.b i).torn = false := by simpa using h1
      rw [e]
theorem up_z (x y : En) (h : y = En.z) : up x y = x := by
  subst h; exact if_neg (by show ¬ x.e < 0; omega)
theorem up_gt {x y : En} (h : x.e < y.e) : up x y = y := if_pos h
theorem eB_app {b b' : Blk} (l : List Nat) (hp : b'.pages = b.pages ++ [l]) (ht : b'.torn = b.torn) (h : b.torn = false) : eB b' = up (eB b) (clm l) := by
  unfold eB
  rw [ht, if_neg (by simp [h]), if_neg (by simp [h]), hp, best_snoc]
theorem eB_nil {b : Blk} (hp : b.pages = []) : eB b = En.z := by
  unfold eB
  rw [hp]
  by_cases h : b.torn = true
  · rw [if_pos h]
  · rw [if_neg h]; rfl
theorem eB_torn {b : Blk} (h : b.torn = true) : eB b = En.z := if_pos h

/-- The last claim of two blocks. -/
noncomputable def lst (a b : Blk) : En := if (eB a).e < (eB b).e then eB b else eB a
/-- The block that has it. -/
noncomputable def hom (f : Nat → Blk) : Nat := if (eB (f 0)).e < (eB (f 1)).e then 1 else 0
theorem hom_lt (f : Nat → Blk) : hom f < 2 := by unfold hom; split <;> omega
theorem lst_hom (f : Nat → Blk) : lst (f 0) (f 1) = eB (f (hom f)) := by
  unfold lst hom
  by_cases h : (eB (f 0)).e < (eB (f 1)).e
  · rw [if_pos h, if_pos h]
  · rw [if_neg h, if_neg h]
/-- The other block. -/
def oth (q : Nat) : Nat := 1 - q
theorem hom_cases (f : Nat → Blk) : (hom f = 0 ∧ ¬ (eB (f 0)).e < (eB (f 1)).e) ∨ (hom f = 1 ∧ (eB (f 0)).e < (eB (f 1)).e) := by
  unfold hom
  by_cases h : (eB (f 0)).e < (eB (f 1)).e
  · rw [if_pos h]; exact .inr ⟨rfl, h⟩
  · rw [if_neg h]; exact .inl ⟨rfl, h⟩
/-- The block that has the last claim holds another one, that isn't lesser. -/
theorem lst_home (f : Nat → Blk) (b' : Blk) (h : eB b' = eB (f (hom f)) ∨ (eB (f (hom f))).e < (eB b').e) : lst ((upd f (hom f) b') 0) ((upd f (hom f) b') 1) = eB b' := by
  rcases hom_cases f with ⟨h0, h1⟩ | ⟨h0, h1⟩
  · rw [h0] at h ⊢
    rw [upd_same, upd_other _ _ _ _ (by omega : (1 : Nat) ≠ 0)]
    have h2 : ¬ (eB b').e < (eB (f 1)).e := by
      rcases h with h | h
      · rw [h]; exact h1
      · omega
    exact if_neg h2
  · rw [h0] at h ⊢
    rw [upd_same, upd_other _ _ _ _ (by omega : (0 : Nat) ≠ 1)]
    have h2 : (eB (f 0)).e < (eB b').e := by
      rcases h with h | h
      · rw [h]; exact h1
      · omega
    exact if_pos h2
/-- The other block holds none. -/
theorem lst_none (f : Nat → Blk) (b' : Blk) (h : eB b' = En.z) : lst ((upd f (oth (hom f)) b') 0) ((upd f (oth (hom f)) b') 1) = eB (f (hom f)) := by
  rcases hom_cases f with ⟨h0, h1⟩ | ⟨h0, h1⟩
  · rw [h0]
    show lst (upd f 1 b' 0) (upd f 1 b' 1) = _
    rw [upd_same, upd_other _ _ _ _ (by omega : (0 : Nat) ≠ 1)]
    exact if_neg (by rw [h]; show ¬ _ < 0; omega)
  · rw [h0]
    show lst (upd f 0 b' 0) (upd f 0 b' 1) = _
    rw [upd_same, upd_other _ _ _ _ (by omega : (1 : Nat) ≠ 0)]
    exact if_pos (by rw [h]; show 0 < _; omega)
/-- The other block holds a greater one. -/
theorem lst_other (f : Nat → Blk) (b' : Blk) (h : (eB (f (hom f))).e < (eB b').e) : lst ((upd f (oth (hom f)) b') 0) ((upd f (oth (hom f)) b') 1) = eB b' := by
  rcases hom_cases f with ⟨h0, h1⟩ | ⟨h0, h1⟩
  · rw [h0] at h ⊢
    show lst (upd f 1 b' 0) (upd f 1 b' 1) = _
    rw [upd_same, upd_other _ _ _ _ (by omega : (0 : Nat) ≠ 1)]
    exact if_pos h
  · rw [h0] at h ⊢
    show lst (upd f 0 b' 0) (upd f 0 b' 1) = _
    rw [upd_same, upd_other _ _ _ _ (by omega : (1 : Nat) ≠ 0)]
    exact if_neg (by omega)

/-- An array whose power is on. -/
structure Nm (s : Arr) (n p f m : Nat) : Prop where
  n : s.n = n
  p : s.pages = p
  f : s.fence = f
  m : s.armed = m
  off : s.off = false

theorem inB_nat {i n : Nat} (h : i < n) : inB (i : Int) n := ⟨by omega, by omega⟩
/-- An operation at a block that is fit. -/
theorem operate_fit {s : Arr} {n p f m : Nat} (h : Nm s n p f m) (i : Nat) (bg : Begun) (what : Blk → Blk) (hf : Fit (s.b i)) :
    (m = 1 ∧ ∃ s', s.operate i bg what = (9, s') ∧ s'.n = n ∧ s'.pages = p ∧ s'.begun = bg ∧ s'.b = s.b) ∨ (m ≠ 1 ∧ ∃ s', s.operate i bg what = (0, s') ∧ Nm s' n p f (m - 1) ∧ s'.b = upd s.b i (what (s.b i))) := by
  have hself : upd s.b i (s.b i) = s.b := by
    funext j
    by_cases hj : j = i
    · subst hj; exact upd_same _ _ _
    · exact upd_other _ _ _ _ hj
  unfold Arr.operate
  by_cases hm : m = 1
  · refine .inl ⟨hm, _, if_pos (h.m.trans hm), h.n, h.p, rfl, ?_⟩
    show upd s.b i (s.b i).tick = s.b
    rw [fit_tick hf, hself]
  · refine .inr ⟨hm, { s.tick i with b := upd s.b i (what (s.b i).tick) }, ?_, ⟨h.n, h.p, h.f, ?_, h.off⟩, ?_⟩
    · rw [if_neg (by rw [h.m]; exact hm), if_neg (by rw [fit_tick hf, hf.fails]; simp)]
    · show s.armed - 1 = m - 1
      rw [h.m]
    · show upd s.b i (what (s.b i).tick) = _
      rw [fit_tick hf]
theorem program_fit {s : Arr} {n p f m : Nat} (h : Nm s n p f m) (i : Nat) (hi : i < n) (hf : Fit (s.b i)) (ht : (s.b i).torn = false) (hlt : (s.b i).pages.length < p) (l : List Nat) (h96 : l.length = 96) (e : Nat) (he : f ≤ e) :
    (m = 1 ∧ ∃ s', s.program i (s.b i).pages.length l e = (9, s') ∧ s'.n = n ∧ s'.pages = p ∧ s'.begun = .lay i l ∧ s'.b = s.b) ∨
    (m ≠ 1 ∧ ∃ s', s.program i (s.b i).pages.length l e = (0, s') ∧ Nm s' n p f (m - 1) ∧ s'.b = upd s.b i { s.b i with pages := (s.b i).pages ++ [l] }) := by
  unfold Arr.program
  rw [if_neg (fun hh => hh (inB_nat (by rw [h.n]; exact hi))), if_neg (by rw [h.off]; simp), if_neg (fun hh => hh (inB_nat (by rw [h.p]; exact hlt))), if_neg (by simp [h96])]
  simp only [Int.toNat_natCast]
  rw [if_neg (by simp [ht]), if_neg (by rw [h.f]; omega)]
  rcases operate_fit h i (.lay i l) (fun b => b.lay l 96) hf with ⟨hm, s', e1, e2⟩ | ⟨hm, s', e1, e2, e3⟩
  · refine .inl ⟨hm, s', ?_, e2⟩
    rw [e1]; exact if_neg (show ¬ (9 : Int) = 8 by decide)
  · refine .inr ⟨hm, s', ?_, e2, ?_⟩
    · rw [e1]; exact if_neg (show ¬ (0 : Int) = 8 by decide)
    · rw [e3]
      unfold Blk.lay
      rw [if_neg (by decide), pad_full l 96 (by decide) h96]
theorem erase_fit {s : Arr} {n p f m : Nat} (h : Nm s n p f m) (i : Nat) (hi : i < n) (hf : Fit (s.b i)) (e : Nat) (he : f ≤ e) :
    (m = 1 ∧ ∃ s', s.erase i e = (9, s') ∧ s'.n = n ∧ s'.pages = p ∧ s'.begun = .erase i ∧ s'.b = s.b) ∨
    (m ≠ 1 ∧ ∃ s', s.erase i e = (0, s') ∧ Nm s' n p f (m - 1) ∧ s'.b = upd s.b i { s.b i with pages := [], torn := false, erases := wrap64 ((s.b i).erases + 1) }) := by
  unfold Arr.erase
  rw [if_neg (fun hh => hh (inB_nat (by rw [h.n]; exact hi))), if_neg (by rw [h.off]; simp), if_neg (by rw [h.f]; omega), Int.toNat_natCast]
  rcases operate_fit h i (.erase i) (fun b => b.erase 96) hf with ⟨hm, s', e1, e2⟩ | ⟨hm, s', e1, e2, e3⟩
  · exact .inl ⟨hm, s', e1, e2⟩
  · refine .inr ⟨hm, s', e1, e2, ?_⟩
    rw [e3]
    unfold Blk.erase
    rw [if_neg (by decide), if_neg (by rw [hf.fails]; simp)]

/-- Two blocks of claims that are fit, and what they tell. -/
structure Inv (s : Arr) (n p f m : Nat) (x : En) : Prop where
  nm : Nm s n p f m
  n2 : 2 ≤ n
  p1 : 1 ≤ p
  fit : ∀ i, i < 2 → Fit (s.b i)
  rest : ∀ j, 2 ≤ j → s.b j = fresh
  last : lst (s.b 0) (s.b 1) = x

theorem Inv.open {s : Arr} {n p f m : Nat} {x : En} (h : Inv s n p f m x) : openS s = ((heldB (s.b 0), heldB (s.b 1)), 0) := by
  unfold openS
  rw [held_fit h.nm.off (h.fit 0 (by omega)).tp, held_fit h.nm.off (h.fit 1 (by omega)).tp, if_neg (fun h => h rfl), if_neg (fun h => h rfl)]
theorem home_hom (f : Nat → Blk) : homeS (heldB (f 0), heldB (f 1)) = hom f := rfl
theorem get_hom (f : Nat → Blk) (q : Nat) (hq : q < 2) : getH (heldB (f 0), heldB (f 1)) q = heldB (f q) := by
  unfold getH
  by_cases h : q = 0
  · rw [if_pos h, h]
  · rw [if_neg h, show q = 1 by omega]
theorem Inv.tells {s : Arr} {n p f m : Nat} {x : En} (h : Inv s n p f m x) : lastS s = (x, 0) := by
  unfold lastS
  rw [h.open]
  dsimp only
  rw [home_hom, get_hom _ _ (hom_lt _), ← h.last, lst_hom]
  rfl
theorem Inv.ehom {s : Arr} {n p f m : Nat} {x : En} (h : Inv s n p f m x) : eB (s.b (hom s.b)) = x := by rw [← h.last, lst_hom]
theorem Inv.claim_arg {s : Arr} {n p f m : Nat} {x : En} (_ : Inv s n p f m x) (y : En) (hy : okE y = false) : claimS s y = (1, s) := if_pos hy
theorem Inv.claim_order {s : Arr} {n p f m : Nat} {x : En} (h : Inv s n p f m x) (y : En) (hy : okE y = true) (hle : y.e ≤ x.e) : claimS s y = (6, s) := by
  unfold claimS
  rw [if_neg (by rw [hy]; decide), h.open]
  dsimp only
  rw [if_neg (fun h => h rfl), home_hom, get_hom _ _ (hom_lt _)]
  exact if_pos (by show y.e ≤ (eB _).e; rw [h.ehom]; exact hle)

theorem fit_upd {s : Arr} (hf : ∀ i, i < 2 → Fit (s.b i)) (q : Nat) (b' : Blk) (hb : Fit b') : ∀ i, i < 2 → Fit (upd s.b q b' i) := fun i hi => by
  by_cases h : i = q
  · subst h; rw [upd_same]; exact hb
  · rw [upd_other _ _ _ _ h]; exact hf i hi
theorem rest_upd {s : Arr} (hr : ∀ j, 2 ≤ j → s.b j = fresh) (q : Nat) (hq : q < 2) (b' : Blk) : ∀ j, 2 ≤ j → upd s.b q b' j = fresh := fun j hj => by
  rw [upd_other _ _ _ _ (by omega)]; exact hr j hj
theorem oth_lt (q : Nat) : oth q < 2 := by unfold oth; omega

/-- A crash whose power comes back. -/
def Back (s' : Arr) (n p : Nat) (x y : En) : Prop := ∀ cut, Inv (s'.restart cut) n p 0 0 x ∨ Inv (s'.restart cut) n p 0 0 y
/-- What a claim does. -/
def Out (r : Int × Arr) (n p f m : Nat) (x y : En) : Prop :=
  (∃ s' m', r = (0, s') ∧ Inv s' n p f m' y ∧ (m = 0 → m' = 0)) ∨ (m ≠ 0 ∧ ∃ s', r = (9, s') ∧ Back s' n p x y)

/-- A claim is programmed behind the others, or as the first one, of the block q. -/
theorem out_program {s : Arr} {n p f m m0 : Nat} {x y : En} (h : Nm s n p f m) (hm0 : m0 = 0 → m = 0) (n2 : 2 ≤ n) (p1 : 1 ≤ p) (q : Nat) (hq : q < 2)
    (fit : ∀ i, i < 2 → Fit (s.b i)) (rest : ∀ j, 2 ≤ j → s.b j = fresh) (hy : okE y = true) (hlt : (s.b q).pages.length < p) (ht : (s.b q).torn = false) (he : f ≤ y.e)
    (hkeep : ∀ b', eB b' = eB (s.b q) → lst (upd s.b q b' 0) (upd s.b q b' 1) = x) (hnew : ∀ b', eB b' = y → lst (upd s.b q b' 0) (upd s.b q b' 1) = y) (hgt : (eB (s.b q)).e < y.e) :
    Out (s.program q (s.b q).pages.length (pgE y) y.e) n p f m0 x y := by
  have hfq := fit q hq
  rcases program_fit h q (by omega) hfq ht hlt (pgE y) (pgE_length y) y.e he with ⟨hm, s', e1, e2, e3, e4, e5⟩ | ⟨hm, s', e1, e2, e3⟩
  · refine .inr ⟨fun h0 => by have := hm0 h0; omega, s', e1, fun cut => ?_⟩
    have hb : (s'.restart cut).b = upd s.b q ((s.b q).lay (pgE y) cut) := by
      unfold Arr.restart Arr.resume
      rw [e4]
      dsimp only
      rw [e5]
    have hnm : Nm (s'.restart cut) n p 0 0 := by
      unfold Arr.restart Arr.resume
      rw [e4]
      exact ⟨e2, e3, rfl, rfl, rfl⟩
    have hfl : Fit ((s.b q).lay (pgE y) cut) := by
      unfold Blk.lay
      by_cases hc : cut ≤ 0
      · rw [if_pos hc]; exact hfq
      · rw [if_neg hc]; exact ⟨hfq.doom, hfq.fails, fun _ => by simp⟩
    have hel : eB ((s.b q).lay (pgE y) cut) = eB (s.b q) ∨ eB ((s.b q).lay (pgE y) cut) = y := by
      unfold Blk.lay
      by_cases hc : cut ≤ 0
      · rw [if_pos hc]; exact .inl rfl
      · rw [if_neg hc]
        have ea := eB_app (b := s.b q) (b' := { s.b q with pages := (s.b q).pages ++ [pad (pgE y) cut] }) (pad (pgE y) cut) rfl rfl ht
        rcases clm_pad hy cut with hp | hp
        · rw [hp, up_gt hgt] at ea; exact .inr ea
        · rw [up_z _ _ hp] at ea; exact .inl ea
    have hF : ∀ z, lst ((s'.restart cut).b 0) ((s'.restart cut).b 1) = z → Inv (s'.restart cut) n p 0 0 z := fun z hz =>
      ⟨hnm, n2, p1, by rw [hb]; exact fit_upd fit q _ hfl, by rw [hb]; exact rest_upd rest q hq _, hz⟩
    rcases hel with hel | hel
    · exact .inl (hF x (by rw [hb]; exact hkeep _ hel))
    · exact .inr (hF y (by rw [hb]; exact hnew _ hel))
  · refine .inl ⟨s', m - 1, e1, ⟨e2, n2, p1, ?_, ?_, ?_⟩, fun h0 => by have := hm0 h0; omega⟩
    · rw [e3]; exact fit_upd fit q _ ⟨hfq.doom, hfq.fails, fun h => by simp⟩
    · rw [e3]; exact rest_upd rest q hq _
    · rw [e3]
      refine hnew _ ?_
      have ea := eB_app (b := s.b q) (b' := { s.b q with pages := (s.b q).pages ++ [pgE y] }) (pgE y) rfl rfl ht
      rw [clm_page hy, up_gt hgt] at ea
      exact ea

theorem oth_cast (q : Nat) (h : q < 2) : (1 - (q : Int)) = (oth q : Nat) := by unfold oth; omega
theorem oth_ne (q : Nat) (h : q < 2) : oth q ≠ q := by unfold oth; omega
theorem upd_self (f : Nat → Blk) (i : Nat) : upd f i (f i) = f := by
  funext j
  by_cases hj : j = i
  · subst hj; exact upd_same _ _ _
  · exact upd_other _ _ _ _ hj
theorem out_begin {s : Arr} {n p f m : Nat} {x y : En} (h : Inv s n p f m x) (hy : okE y = true) (hxy : x.e < y.e) (he : f ≤ y.e) : Out (beginS s (1 - (hom s.b : Int)) y) n p f m x y := by
  have hq := hom_lt s.b
  have ho := oth_lt (hom s.b)
  have hx := h.ehom
  rw [oth_cast _ hq]
  unfold beginS
  rcases erase_fit h.nm (oth (hom s.b)) (by have := h.n2; omega) (h.fit _ ho) y.e he with ⟨hm, s', e1, e2, e3, e4, e5⟩ | ⟨hm, s', e1, e2, e3⟩
  · rw [e1]
    refine .inr ⟨by omega, s', if_neg (show ¬ (9 : Int) = 0 by decide), fun cut => .inl ?_⟩
    have hb : (s'.restart cut).b = upd s.b (oth (hom s.b)) ((s.b (oth (hom s.b))).erase cut) := by
      unfold Arr.restart Arr.resume
      rw [e4]
      dsimp only
      rw [e5]
    have hnm : Nm (s'.restart cut) n p 0 0 := by
      unfold Arr.restart Arr.resume
      rw [e4]
      exact ⟨e2, e3, rfl, rfl, rfl⟩
    have hfo := h.fit _ ho
    obtain ⟨bo, hbo⟩ : ∃ bo, s.b (oth (hom s.b)) = bo := ⟨_, rfl⟩
    rw [hbo] at hb hfo
    have hfl : Fit (bo.erase cut) ∧ (bo.erase cut = bo ∨ eB (bo.erase cut) = En.z) := by
      unfold Blk.erase
      by_cases hc : cut ≤ 0
      · rw [if_pos hc]; exact ⟨hfo, .inl rfl⟩
      · rw [if_neg hc]
        by_cases hd : cut < 96 ∨ bo.fails = true
        · rw [if_pos hd]
          refine ⟨⟨hfo.doom, hfo.fails, fun h => of_decide_eq_true h⟩, .inr ?_⟩
          by_cases hp : 0 < bo.pages.length
          · exact eB_torn (decide_eq_true hp)
          · exact eB_nil (List.eq_nil_of_length_eq_zero (by show bo.pages.length = 0; omega))
        · rw [if_neg hd]
          exact ⟨⟨hfo.doom, hfo.fails, fun h => by cases h⟩, .inr (eB_nil rfl)⟩
    refine ⟨hnm, h.n2, h.p1, by rw [hb]; exact fit_upd h.fit _ _ hfl.1, by rw [hb]; exact rest_upd h.rest _ ho _, ?_⟩
    rw [hb]
    rcases hfl.2 with h2 | h2
    · rw [h2, ← hbo, upd_self]
      exact h.last
    · rw [lst_none _ _ h2, hx]
  · rw [e1]
    dsimp only
    rw [if_pos rfl]
    have hlen : (s'.b (oth (hom s.b))).pages.length = 0 := by rw [e3, upd_same]; rfl
    have hnil : eB (s'.b (oth (hom s.b))) = En.z := eB_nil (List.eq_nil_of_length_eq_zero hlen)
    have hub : ∀ b', upd s'.b (oth (hom s.b)) b' = upd s.b (oth (hom s.b)) b' := fun b' => by rw [e3, upd_upd]
    have hy1 : 1 ≤ y.e := (of_decide_eq_true hy).1
    have key := out_program (s := s') (m0 := m) (x := x) (y := y) e2 (fun h0 => by omega) h.n2 h.p1 (oth (hom s.b)) ho (by rw [e3]; exact fit_upd h.fit _ _ ⟨(h.fit _ ho).doom, (h.fit _ ho).fails, fun h => by cases h⟩) (by rw [e3]; exact rest_upd h.rest _ ho _) hy
      (by rw [hlen]; exact h.p1) (by rw [e3, upd_same]) he (fun b' hb => by rw [hub, lst_none _ _ (hb.trans hnil), hx]) (fun b' hb => by rw [hub, lst_other _ _ (by rw [hx, hb]; exact hxy), hb]) (by rw [hnil]; exact hy1)
    rw [hlen] at key
    exact key

theorem claim_out {s : Arr} {n p f m : Nat} {x y : En} (h : Inv s n p f m x) (hy : okE y = true) (hxy : x.e < y.e) (he : f ≤ y.e) : Out (claimS s y) n p f m x y := by
  have hq := hom_lt s.b
  have hx := h.ehom
  unfold claimS
  rw [if_neg (by rw [hy]; decide), h.open]
  dsimp only
  rw [if_neg (fun h => h rfl), home_hom, get_hom _ _ hq, if_neg (by show ¬ y.e ≤ (eB _).e; rw [hx]; omega)]
  by_cases ht : (heldB (s.b (hom s.b))).torn = true
  · rw [if_pos ht]
    exact out_begin h hy hxy he
  · rw [if_neg ht, h.nm.p]
    have ht2 : (s.b (hom s.b)).torn = false := by
      have e : ¬ (s.b (hom s.b)).torn = true := ht
      simpa using e
    rcases hk : p - (s.b (hom s.b)).pages.length with _ | k
    · exact out_begin h hy hxy he
    · have key := out_program (m0 := m) (x := x) (y := y) h.nm id h.n2 h.p1 (hom s.b) hq h.fit h.rest hy (by omega) ht2 he
        (fun b' hb => by rw [lst_home _ _ (.inl hb), hb, hx]) (fun b' hb => by rw [lst_home _ _ (.inr (by rw [hx, hb]; exact hxy)), hb]) (by rw [hx]; exact hxy)
      have h8 : ¬ (s.program (hom s.b) (s.b (hom s.b)).pages.length (pgE y) y.e).1 = 8 := by
        rcases key with ⟨s', m', e, _⟩ | ⟨_, s', e, _⟩ <;> · rw [e]; intro h8; dsimp only at h8; omega
      show Out (if _ then _ else _) n p f m x y
      rw [if_neg h8]
      exact key

theorem inv_new (n p : Nat) (hn : 2 ≤ n) (hp : 1 ≤ p) : Inv (Arr.new n p (fun _ => fresh)) n p 0 0 En.z :=
  ⟨⟨rfl, rfl, rfl, rfl, rfl⟩, hn, hp, fun _ _ => fit_fresh, fun _ _ => rfl, by
    show lst fresh fresh = _
    unfold lst
    rw [eB_nil (b := fresh) rfl]
    exact if_neg (by decide)⟩
/-- A claim, with no cut ahead. -/
theorem claim_ok {s : Arr} {n p f : Nat} {x y : En} (h : Inv s n p f 0 x) (hy : okE y = true) (hxy : x.e < y.e) (he : f ≤ y.e) : ∃ s', claimS s y = (0, s') ∧ Inv s' n p f 0 y := by
  rcases claim_out h hy hxy he with ⟨s', m', e, hi, hm⟩ | ⟨hm, _⟩
  · rw [hm rfl] at hi
    exact ⟨s', e, hi⟩
  · exact absurd rfl hm
end Drawbar.Log
