/- A map of pages (package pmap) as plain data: where each address's page is. -/
namespace Drawbar.Pm

/-- How many of the first n have f. -/
def cntTo (f : Nat → Bool) : Nat → Nat
  | 0 => 0
  | n + 1 => cntTo f n + if f n then 1 else 0
theorem cntTo_succ (f : Nat → Bool) (n : Nat) : cntTo f (n + 1) = cntTo f n + if f n then 1 else 0 := rfl
theorem cntTo_le (f : Nat → Bool) (n : Nat) : cntTo f n ≤ n := by
  induction n with
  | zero => exact Nat.le_refl _
  | succ n ih => unfold cntTo; split <;> omega
theorem cntTo_congr {f g : Nat → Bool} (n : Nat) (h : ∀ k, k < n → f k = g k) : cntTo f n = cntTo g n := by
  induction n with
  | zero => rfl
  | succ n ih => unfold cntTo; rw [ih fun k hk => h k (by omega), h n (by omega)]
theorem cntTo_upd {f g : Nat → Bool} (n k : Nat) (hk : k < n) (h : ∀ j, j ≠ k → f j = g j) : cntTo f n + (if g k then 1 else 0) = cntTo g n + if f k then 1 else 0 := by
  induction n with
  | zero => omega
  | succ n ih =>
    unfold cntTo
    by_cases e : k = n
    · subst e
      rw [cntTo_congr k fun j hj => h j (by omega)]
      omega
    · have := ih (by omega)
      rw [h n (Ne.symm e)]
      omega
theorem cntTo_none {f : Nat → Bool} (n : Nat) (h : ∀ k, k < n → f k = false) : cntTo f n = 0 := by
  induction n with
  | zero => rfl
  | succ n ih => unfold cntTo; rw [ih fun k hk => h k (by omega), h n (by omega)]; rfl
theorem cntTo_pos {f : Nat → Bool} (n k : Nat) (hk : k < n) (h : f k = true) : 0 < cntTo f n := by
  induction n with
  | zero => omega
  | succ n ih =>
    unfold cntTo
    by_cases e : k = n
    · subst e; rw [if_pos h]; omega
    · have := ih (by omega); omega
theorem cntTo_filter (f : Nat → Bool) (n : Nat) : ((List.range n).filter f).length = cntTo f n := by
  induction n with
  | zero => rfl
  | succ n ih =>
    rw [List.range_succ, List.filter_append, List.length_append, ih, cntTo_succ]
    cases h : f n <;> simp [h]
theorem cntTo_two {f g : Nat → Bool} (n : Nat) (h : ∀ k, ¬ (f k = true ∧ g k = true)) : cntTo (fun k => f k || g k) n = cntTo f n + cntTo g n := by
  induction n with
  | zero => rfl
  | succ n ih =>
    unfold cntTo
    rw [ih]
    have := h n
    cases h1 : f n <;> cases h2 : g n <;> simp_all <;> omega

/-- A map of so many addresses and blocks. -/
structure St where
  addrs : Nat
  blocks : Nat
  at_ : Nat → Option (Nat × Nat)
abbrev Pl := Option (Nat × Nat)
/-- Is it on this block? -/
def on (b : Nat) : Pl → Bool
  | some (c, _) => c == b
  | none => false
def blkOf : Pl → Int
  | some (b, _) => b
  | none => -1
def pgOf : Pl → Int
  | some (_, p) => p
  | none => 0
/-- As Get tells it. -/
def tellB : Pl → Int
  | some (b, _) => b
  | none => 0
def St.cnt (s : St) (b : Nat) : Nat := cntTo (fun k => on b (s.at_ k)) s.addrs
def St.new (a b : Nat) : St := ⟨a, b, fun _ => none⟩
def St.put (s : St) (k : Nat) (v : Pl) : St := { s with at_ := fun j => if j = k then v else s.at_ j }
/-- How many have a page. -/
def St.len (s : St) : Nat := cntTo (fun k => (s.at_ k).isSome) s.addrs
/-- The addresses on a block. -/
def St.ons (s : St) (b : Nat) : List Nat := (List.range s.addrs).filter fun k => on b (s.at_ k)
/-- The sum of the first n blocks' counts. -/
def St.sumTo (s : St) : Nat → Nat
  | 0 => 0
  | n + 1 => s.sumTo n + s.cnt n

structure Wf (s : St) : Prop where
  a0 : 0 < s.addrs
  a9 : s.addrs ≤ 65536
  b0 : 0 < s.blocks
  b9 : s.blocks ≤ 64
  pl : ∀ k b p, s.at_ k = some (b, p) → b < s.blocks ∧ p < 32
  out : ∀ k, s.addrs ≤ k → s.at_ k = none
/-- No two addresses have one page. -/
def Apart (s : St) : Prop := ∀ j k v, s.at_ j = some v → s.at_ k = some v → j = k

theorem Wf.new {a b : Nat} (h1 : 0 < a) (h2 : a ≤ 65536) (h3 : 0 < b) (h4 : b ≤ 64) : Wf (St.new a b) := ⟨h1, h2, h3, h4, fun _ _ _ h => (by cases h), fun _ _ => rfl⟩
theorem Wf.put {s : St} (h : Wf s) (k : Nat) (hk : k < s.addrs) (v : Pl) (hv : ∀ b p, v = some (b, p) → b < s.blocks ∧ p < 32) : Wf (s.put k v) := by
  have hat : ∀ j, (s.put k v).at_ j = if j = k then v else s.at_ j := fun _ => rfl
  refine ⟨h.a0, h.a9, h.b0, h.b9, fun j b p hj => ?_, fun j hj => ?_⟩
  · rw [hat] at hj
    by_cases e : j = k
    · rw [if_pos e] at hj; exact hv b p hj
    · rw [if_neg e] at hj; exact h.pl j b p hj
  · replace hj : s.addrs ≤ j := hj
    rw [hat, if_neg (by omega)]; exact h.out j hj
@[simp] theorem put_same (s : St) (k : Nat) (v : Pl) : (s.put k v).at_ k = v := if_pos rfl
theorem put_other (s : St) (k j : Nat) (v : Pl) (h : j ≠ k) : (s.put k v).at_ j = s.at_ j := if_neg h
theorem put_put (s : St) (k : Nat) (v u : Pl) : (s.put k v).put k u = s.put k u := by
  unfold St.put
  congr 1
  funext j
  by_cases e : j = k
  · simp [e]
  · simp [e]
theorem put_id (s : St) (k : Nat) : s.put k (s.at_ k) = s := by
  unfold St.put
  obtain ⟨a, b, f⟩ := s
  congr 1
  funext j
  by_cases e : j = k
  · simp [e]
  · simp [e]
theorem cnt_put (s : St) (k : Nat) (v : Pl) (hk : k < s.addrs) (b : Nat) : (s.put k v).cnt b + (if on b (s.at_ k) then 1 else 0) = s.cnt b + if on b v then 1 else 0 := by
  have := cntTo_upd (f := fun j => on b ((s.put k v).at_ j)) (g := fun j => on b (s.at_ j)) s.addrs k hk (fun j hj => by rw [put_other _ _ _ _ hj])
  simp only [put_same] at this
  exact this
theorem cnt_le (s : St) (b : Nat) : s.cnt b ≤ s.addrs := cntTo_le _ _
theorem sumTo_eq (s : St) (n : Nat) : s.sumTo n = cntTo (fun k => match s.at_ k with | some (b, _) => decide (b < n) | none => false) s.addrs := by
  induction n with
  | zero =>
    refine (cntTo_none _ fun k _ => ?_).symm
    cases s.at_ k with
    | none => rfl
    | some v => simp
  | succ n ih =>
    show s.sumTo n + s.cnt n = _
    rw [ih]
    unfold St.cnt
    rw [← cntTo_two]
    · refine cntTo_congr _ fun k _ => ?_
      cases h : s.at_ k with
      | none => rfl
      | some v =>
        simp only [on]
        rw [Bool.eq_iff_iff]
        simp
        omega
    · intro k
      cases h : s.at_ k with
      | none => simp
      | some v => simp only [on]; simp; omega
theorem sum_len {s : St} (h : Wf s) : s.sumTo s.blocks = s.len := by
  rw [sumTo_eq]
  refine cntTo_congr _ fun k _ => ?_
  cases e : s.at_ k with
  | none => rfl
  | some v =>
    obtain ⟨b, p⟩ := v
    have := (h.pl k b p e).1
    simp [this]
theorem ons_length (s : St) (b : Nat) : (s.ons b).length = s.cnt b := cntTo_filter _ _
theorem mem_ons {s : St} {b k : Nat} : k ∈ s.ons b ↔ k < s.addrs ∧ on b (s.at_ k) = true := by simp [St.ons]
theorem on_iff {b : Nat} {v : Pl} : on b v = true ↔ ∃ p, v = some (b, p) := by
  cases v with
  | none => simp [on]
  | some v => obtain ⟨c, p⟩ := v; simp [on]
theorem Apart.new (a b : Nat) : Apart (St.new a b) := fun j k v h => by cases h
theorem Apart.drop {s : St} (h : Apart s) (k : Nat) : Apart (s.put k none) := fun i j v hi hj => by
  by_cases e1 : i = k
  · subst e1; rw [put_same] at hi; cases hi
  · by_cases e2 : j = k
    · subst e2; rw [put_same] at hj; cases hj
    · rw [put_other _ _ _ _ e1] at hi; rw [put_other _ _ _ _ e2] at hj; exact h i j v hi hj
theorem Apart.set {s : St} (h : Apart s) (k : Nat) (v : Nat × Nat) (hv : ∀ j, j ≠ k → s.at_ j ≠ some v) : Apart (s.put k (some v)) := fun i j u hi hj => by
  by_cases e1 : i = k
  · by_cases e2 : j = k
    · omega
    · subst e1
      rw [put_same] at hi
      rw [put_other _ _ _ _ e2, ← hi] at hj
      exact absurd hj (hv j e2)
  · by_cases e2 : j = k
    · subst e2
      rw [put_same] at hj
      rw [put_other _ _ _ _ e1, ← hj] at hi
      exact absurd hi (hv i e1)
    · rw [put_other _ _ _ _ e1] at hi; rw [put_other _ _ _ _ e2] at hj; exact h i j u hi hj

theorem nodup_bound : ∀ (n : Nat) (l : List Nat), l.Nodup → (∀ x ∈ l, x < n) → l.length ≤ n
  | 0, l, _, h => by
    cases l with
    | nil => exact Nat.le_refl _
    | cons x l => exact absurd (h x (by simp)) (by omega)
  | n + 1, l, hn, h => by
    by_cases hm : n ∈ l
    · have h1 := nodup_bound n (l.erase n) (hn.erase n) fun x hx => by
        have h2 := (hn.mem_erase_iff).1 hx
        have := h x h2.2
        omega
      have h3 := List.length_erase_of_mem hm
      omega
    · have h1 := nodup_bound n l hn fun x hx => by
        have := h x hx
        have : x ≠ n := fun e => hm (e ▸ hx)
        omega
      omega

/-- Where no two have one page there are at most 32 on a block. -/
theorem cnt_32 {s : St} (h : Wf s) (ha : Apart s) (b : Nat) : s.cnt b ≤ 32 := by
  rw [← ons_length]
  have hnd : (s.ons b).Nodup := List.nodup_range.filter _
  have hpg : ∀ k, k ∈ s.ons b → ∃ p, p < 32 ∧ s.at_ k = some (b, p) := fun k hk => by
    obtain ⟨p, hp⟩ := on_iff.1 (mem_ons.1 hk).2
    exact ⟨p, (h.pl k b p hp).2, hp⟩
  have hmap : ((s.ons b).map fun k => (pgOf (s.at_ k)).toNat).Nodup := by
    refine List.pairwise_map.2 (hnd.imp_of_mem fun {x y} hx hy hne e => hne ?_)
    obtain ⟨p, _, hp⟩ := hpg x hx
    obtain ⟨q, _, hq⟩ := hpg y hy
    rw [hp, hq] at e
    simp only [pgOf, Int.toNat_natCast] at e
    subst e
    exact ha x y _ hp hq
  have := nodup_bound 32 _ hmap fun x hx => by
    obtain ⟨k, hk, rfl⟩ := List.mem_map.1 hx
    obtain ⟨p, hp, e⟩ := hpg k hk
    rw [e]
    simpa [pgOf] using hp
  simpa using this
end Drawbar.Pm
