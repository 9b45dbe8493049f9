/- How the blocks of a pool stand (package pool), as plain data. -/
namespace Drawbar.Pl

/-- How each block stands; none is no block of the pool. -/
structure St where
  at_ : Int → Option Nat
structure Wf (s : St) : Prop where
  rng : ∀ t v, s.at_ t = some v → 0 ≤ t ∧ t < 64 ∧ v < 4
  one : ∀ a b, s.at_ a = some 2 → s.at_ b = some 2 → a = b
def nums : List Int := (List.range 64).map Int.ofNat
theorem mem_nums (t : Int) : t ∈ nums ↔ 0 ≤ t ∧ t < 64 := by
  unfold nums
  rw [List.mem_map]
  constructor
  · rintro ⟨k, hk, rfl⟩; have := List.mem_range.1 hk; exact ⟨Int.natCast_nonneg k, Int.ofNat_lt.2 this⟩
  · intro h; exact ⟨t.toNat, List.mem_range.2 (by omega), Int.toNat_of_nonneg h.1⟩
theorem nums_rise : nums.Pairwise (· < ·) := by
  unfold nums
  rw [List.pairwise_map]
  exact (List.pairwise_lt_range).imp fun h => Int.ofNat_lt.2 h
/-- The blocks that stand so, rising. -/
def St.those (s : St) (h : Nat) : List Int := nums.filter fun t => decide (s.at_ t = some h)
theorem those_rise (s : St) (h : Nat) : (s.those h).Pairwise (· < ·) := nums_rise.filter _
theorem mem_those {s : St} (w : Wf s) (h : Nat) (t : Int) : t ∈ s.those h ↔ s.at_ t = some h := by
  unfold St.those
  rw [List.mem_filter, mem_nums, decide_eq_true_eq]
  exact ⟨fun h => h.2, fun e => ⟨⟨(w.rng t h e).1, (w.rng t h e).2.1⟩, e⟩⟩
theorem those_le (s : St) (h : Nat) : (s.those h).length ≤ 64 := by
  unfold St.those
  exact Nat.le_trans (List.length_filter_le _ _) (by unfold nums; simp)
/-- What is gathered in any order sorts to them. -/
theorem those_of {s : St} (w : Wf s) (h : Nat) {ss : List Int} (hn : ss.Nodup) (hm : ∀ x, x ∈ ss ↔ s.at_ x = some h) : ss.Perm (s.those h) :=
  (List.perm_ext_iff_of_nodup hn ((those_rise s h).imp fun h => by omega)).2 fun x => by rw [hm, mem_those w]
theorem sort_those {s : St} (w : Wf s) (h : Nat) {ss : List Int} (hn : ss.Nodup) (hm : ∀ x, x ∈ ss ↔ s.at_ x = some h) : ss.mergeSort (fun x y => decide (x ≤ y)) = s.those h := by
  refine List.Perm.eq_of_pairwise (le := fun a b : Int => a ≤ b) (fun a b _ _ h1 h2 => by omega) ?_ ((those_rise s h).imp fun h => by omega) ((List.mergeSort_perm ss _).trans (those_of w h hn hm))
  exact (List.pairwise_mergeSort (le := fun x y : Int => decide (x ≤ y)) (fun a b c h1 h2 => by simp only [decide_eq_true_eq] at *; omega) (fun a b => by simp only [Bool.or_eq_true, decide_eq_true_eq]; omega) ss).imp fun h => by simpa using h

def St.put (s : St) (b : Int) (v : Nat) : St := ⟨fun t => if t = b then some v else s.at_ t⟩
theorem put_at (s : St) (b : Int) (v : Nat) (t : Int) : (s.put b v).at_ t = if t = b then some v else s.at_ t := rfl
/-- What is open is used. -/
def St.close (s : St) : St := ⟨fun t => if s.at_ t = some 2 then some 1 else s.at_ t⟩
theorem close_at (s : St) (t : Int) : s.close.at_ t = if s.at_ t = some 2 then some 1 else s.at_ t := rfl
def St.set (s : St) (b : Int) (v : Nat) : St := (if v = 2 then s.close else s).put b v
theorem those_open {s : St} (w : Wf s) : s.those 2 = [] ∨ ∃ o, s.those 2 = [o] ∧ s.at_ o = some 2 ∧ s.close = s.put o 1 := by
  have hr := those_rise s 2
  have hm := mem_those w 2
  match h : s.those 2 with
  | [] => exact .inl rfl
  | [o] =>
    have ho : s.at_ o = some 2 := (hm o).1 (by rw [h]; simp)
    refine .inr ⟨o, rfl, ho, ?_⟩
    unfold St.close St.put
    congr 1
    funext t
    by_cases e : t = o
    · subst e; simp [ho]
    · have : s.at_ t ≠ some 2 := fun h2 => e (w.one t o h2 ho)
      simp [e, this]
  | a :: b :: r =>
    have ha : s.at_ a = some 2 := (hm a).1 (by rw [h]; simp)
    have hb : s.at_ b = some 2 := (hm b).1 (by rw [h]; simp)
    rw [h] at hr
    have := (List.pairwise_cons.1 hr).1 b (by simp)
    have := w.one a b ha hb
    omega
theorem close_none {s : St} (w : Wf s) (h : s.those 2 = []) : s.close = s := by
  obtain ⟨f⟩ := s
  unfold St.close
  congr 1
  funext t
  have : f t ≠ some 2 := fun h2 => by
    have := (mem_those w 2 t).2 h2
    rw [h] at this
    cases this
  simp [this]
theorem Wf.put {s : St} (w : Wf s) {b : Int} {v : Nat} (hb : 0 ≤ b ∧ b < 64) (hv : v < 4) (ho : v = 2 → ∀ t, t ≠ b → s.at_ t ≠ some 2) : Wf (s.put b v) where
  rng t x h := by
    rw [put_at] at h
    split at h
    · rename_i e; cases h; subst e; exact ⟨hb.1, hb.2, hv⟩
    · exact w.rng t x h
  one x y hx hy := by
    rw [put_at] at hx hy
    split at hx <;> split at hy
    · rename_i e1 e2; rw [e1, e2]
    · rename_i e1 e2; cases hx; exact absurd hy (ho rfl y e2)
    · rename_i e1 e2; cases hy; exact absurd hx (ho rfl x e1)
    · exact w.one x y hx hy
theorem Wf.close {s : St} (w : Wf s) : Wf s.close where
  rng t x h := by
    rw [close_at] at h
    split at h
    · rename_i e; cases h; have := w.rng t 2 e; omega
    · exact w.rng t x h
  one x y hx hy := by
    rw [close_at] at hx
    split at hx
    · cases hx
    · rename_i e; exact absurd hx e
theorem close_not {s : St} (t : Int) : s.close.at_ t ≠ some 2 := by
  rw [close_at]; split
  · intro h; cases h
  · assumption
theorem close_some {s : St} {b : Int} : (s.close.at_ b).isSome = (s.at_ b).isSome := by
  rw [close_at]; split
  · rename_i e; rw [e]; rfl
  · rfl
theorem Wf.set {s : St} (w : Wf s) {b : Int} {v : Nat} (hb : 0 ≤ b ∧ b < 64) (hv : v < 4) : Wf (s.set b v) := by
  unfold St.set
  split
  · exact w.close.put hb hv fun _ t _ => close_not t
  · rename_i e; exact w.put hb hv fun h => absurd h e
theorem set_at (s : St) (b : Int) (v : Nat) (t : Int) : (s.set b v).at_ t = if t = b then some v else if v = 2 ∧ s.at_ t = some 2 then some 1 else s.at_ t := by
  unfold St.set
  rw [put_at]
  by_cases e : t = b
  · rw [if_pos e, if_pos e]
  · rw [if_neg e, if_neg e]
    by_cases h : v = 2
    · rw [if_pos h, close_at]; simp [h]
    · rw [if_neg h]; simp [h]
/-- A pool of these blocks: all are free. -/
def St.new (l : List Int) : St := ⟨fun t => if t ∈ l then some 0 else none⟩
theorem Wf.new {l : List Int} (h : ∀ t ∈ l, 0 ≤ t ∧ t < 64) : Wf (St.new l) where
  rng t v e := by
    unfold St.new at e
    dsimp only at e
    split at e
    · rename_i ht; cases e; have := h t ht; omega
    · cases e
  one a b e := by
    unfold St.new at e
    dsimp only at e
    split at e <;> cases e
/-- How a block stands; what is none is dead. -/
def stood : Option Nat → Nat
  | none => 3
  | some v => v
theorem stood_lt {s : St} (w : Wf s) (t : Int) : stood (s.at_ t) < 4 := by
  cases h : s.at_ t with
  | none => exact (by decide : (3 : Nat) < 4)
  | some v => exact (w.rng t v h).2.2
end Drawbar.Pl
