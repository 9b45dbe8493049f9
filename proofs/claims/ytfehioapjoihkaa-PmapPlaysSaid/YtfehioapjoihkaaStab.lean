/- The stable sort's plain part: exchanges of ranges, rotations, and the merge of two sorted neighbours. -/
import Derived.Sort.LotA
namespace Drawbar.Stab
open Go.Sort
variable {α : Type} [Inhabited α]

/-- What a rotation of [a, m) and [m, b) makes of a row. -/
def rotAt (d : Array α) (a m b k : Nat) : α := if a ≤ k ∧ k < b then (if k < a + (b - m) then d[k + (m - a)]! else d[k - (b - m)]!) else d[k]!
structure Rot (a m b : Nat) (d d' : Array α) : Prop where
  size : d'.size = d.size
  perm : PermIn a b d d'
  at_ : ∀ k, d'[k]! = rotAt d a m b k
/-- The first n of [a, ..) and of [b, ..) are exchanged. -/
def swAt (d : Array α) (a b n k : Nat) : α := if a ≤ k ∧ k < a + n then d[b + (k - a)]! else if b ≤ k ∧ k < b + n then d[a + (k - b)]! else d[k]!
structure Swr (a b n : Nat) (d d' : Array α) : Prop where
  size : d'.size = d.size
  perm : PermIn a (b + n) d d'
  at_ : ∀ k, d'[k]! = swAt d a b n k

theorem permIn_wide {d d' : Array α} {a b a' b' : Nat} (h : PermIn a b d d') (h1 : a' ≤ a) (h2 : b ≤ b') (h3 : b' ≤ d.size) : PermIn a' b' d d' := permIn_mono d d' a b a' b' h1 h2 h3 h

theorem at_eq (d : Array α) {x y : Nat} (h : x = y) : d[x]! = d[y]! := by rw [h]
theorem Swr.zero (a b : Nat) (d : Array α) : Swr a b 0 d d := ⟨rfl, permIn_refl d a (b + 0), fun k => by
  unfold swAt; rw [if_neg (by omega), if_neg (by omega)]⟩
theorem Swr.step {a b i : Nat} {d dk : Array α} (h : Swr a b i d dk) (hab : a + i < b) (hb : b + i < d.size) : Swr a b (i + 1) d (swp dk (a + i) (b + i)) := by
  have hs := h.size
  have g := swp_get dk (i := a + i) (j := b + i) (by omega) (by omega)
  refine ⟨by rw [size_swp]; exact hs, permIn_trans _ _ _ _ _ (permIn_wide h.perm (Nat.le_refl _) (by omega) (by omega)) (swp_permIn dk a (b + (i + 1)) (a + i) (b + i) (by omega) (by omega) (by omega) (by omega) (by omega)), fun k => ?_⟩
  rw [g k, h.at_, h.at_, h.at_]
  unfold swAt
  (repeat' split) <;> first | (exact at_eq _ (by omega)) | (exfalso; omega)

/-- One place to the right. -/
theorem Rot.one (a : Nat) (d : Array α) : Rot a (a + 1) (a + 1) d d := ⟨rfl, permIn_refl d _ _, fun k => by
  unfold rotAt
  (repeat' split) <;> first | (exact at_eq _ (by omega)) | (exfalso; omega)⟩
theorem Rot.left {a k : Nat} {d dk : Array α} (h : Rot a (a + 1) (k + 1) d dk) (hak : a ≤ k) (hk : k + 1 < d.size) : Rot a (a + 1) (k + 2) d (swp dk k (k + 1)) := by
  have hs := h.size
  have g := swp_get dk (i := k) (j := k + 1) (by omega) (by omega)
  refine ⟨by rw [size_swp]; exact hs, permIn_trans _ _ _ _ _ (permIn_wide h.perm (Nat.le_refl _) (by omega) (by omega)) (swp_permIn dk a (k + 2) k (k + 1) (by omega) (by omega) (by omega) (by omega) (by omega)), fun c => ?_⟩
  rw [g c, h.at_, h.at_, h.at_]
  unfold rotAt
  (repeat' split) <;> first | (exact at_eq _ (by omega)) | (exfalso; omega)
theorem Rot.none_ (m : Nat) (d : Array α) : Rot m m (m + 1) d d := ⟨rfl, permIn_refl d _ _, fun k => by
  unfold rotAt
  (repeat' split) <;> first | (exact at_eq _ (by omega)) | (exfalso; omega)⟩
theorem Rot.right {m k : Nat} {d dk : Array α} (h : Rot (k + 1) m (m + 1) d dk) (hkm : k + 1 ≤ m) (hm : m < d.size) : Rot k m (m + 1) d (swp dk (k + 1) k) := by
  have hs := h.size
  have g := swp_get dk (i := k + 1) (j := k) (by omega) (by omega)
  refine ⟨by rw [size_swp]; exact hs, permIn_trans _ _ _ _ _ (permIn_wide h.perm (by omega) (Nat.le_refl _) (by omega)) (swp_permIn dk k (m + 1) (k + 1) k (by omega) (by omega) (by omega) (by omega) (by omega)), fun c => ?_⟩
  rw [g c, h.at_, h.at_, h.at_]
  unfold rotAt
  (repeat' split) <;> first | (exact at_eq _ (by omega)) | (exfalso; omega)

/-- A rotation under way: what is left to be done is a rotation of [m - i, m) and [m, m + j). -/
structure Rots (a m b i j : Nat) (d dk : Array α) : Prop where
  size : dk.size = d.size
  perm : PermIn a b d dk
  at_ : ∀ k, rotAt dk (m - i) m (m + j) k = rotAt d a m b k
theorem Rots.start {a m b : Nat} (d : Array α) (h1 : a ≤ m) (h2 : m ≤ b) : Rots a m b (m - a) (b - m) d d := ⟨rfl, permIn_refl d _ _, fun k => by
  rw [show m - (m - a) = a by omega, show m + (b - m) = b by omega]⟩
theorem Rots.more {a m b i j : Nat} {d dk d' : Array α} (h : Rots a m b i j d dk) (hs : Swr (m - i) m j dk d') (hij : j < i) (hi : i ≤ m - a) (hj : j ≤ b - m) (ham : a ≤ m) (hmb : m ≤ b) (hb : b ≤ d.size) : Rots a m b (i - j) j d d' := by
  refine ⟨hs.size.trans h.size, permIn_trans _ _ _ _ _ h.perm (permIn_wide hs.perm (by omega) (by omega) (by rw [h.size]; omega)), fun k => ?_⟩
  rw [← h.at_ k]
  unfold rotAt
  rw [hs.at_, hs.at_, hs.at_]
  unfold swAt
  (repeat' split) <;> first | (exact at_eq _ (by omega)) | (exfalso; omega)
theorem Rots.less {a m b i j : Nat} {d dk d' : Array α} (h : Rots a m b i j d dk) (hs : Swr (m - i) (m + j - i) i dk d') (hij : i < j) (hi : i ≤ m - a) (hj : j ≤ b - m) (ham : a ≤ m) (hmb : m ≤ b) (hb : b ≤ d.size) : Rots a m b i (j - i) d d' := by
  refine ⟨hs.size.trans h.size, permIn_trans _ _ _ _ _ h.perm (permIn_wide hs.perm (by omega) (by omega) (by rw [h.size]; omega)), fun k => ?_⟩
  rw [← h.at_ k]
  unfold rotAt
  rw [hs.at_, hs.at_, hs.at_]
  unfold swAt
  (repeat' split) <;> first | (exact at_eq _ (by omega)) | (exfalso; omega)
theorem Rots.done {a m b i : Nat} {d dk d' : Array α} (h : Rots a m b i i d dk) (hs : Swr (m - i) m i dk d') (hi : i ≤ m - a) (hj : i ≤ b - m) (ham : a ≤ m) (hmb : m ≤ b) (hb : b ≤ d.size) : Rot a m b d d' := by
  refine ⟨hs.size.trans h.size, permIn_trans _ _ _ _ _ h.perm (permIn_wide hs.perm (by omega) (by omega) (by rw [h.size]; omega)), fun k => ?_⟩
  rw [← h.at_ k, hs.at_]
  unfold rotAt swAt
  (repeat' split) <;> first | (exact at_eq _ (by omega)) | (exfalso; omega)
theorem Rot.id {s m e : Nat} (d : Array α) (h : s = m ∨ e = m) (h1 : s ≤ m) (h2 : m ≤ e) : Rot s m e d d := ⟨rfl, permIn_refl d _ _, fun k => by
  unfold rotAt
  (repeat' split) <;> first | (exact at_eq _ (by omega)) | (exfalso; omega)⟩

section
variable {lt : α → α → Bool}
theorem SortedIn.sub {a b a' b' : Nat} {d : Array α} (h : SortedIn lt a b d) (h1 : a ≤ a') (h2 : b' ≤ b) : SortedIn lt a' b' d := fun i j hi hij hj => h i j (by omega) hij (by omega)
theorem SortedIn.short {a b : Nat} (d : Array α) (h : b ≤ a + 1) : SortedIn lt a b d := fun i j hi hij hj => by omega
theorem SortedIn.same {a b : Nat} {d d' : Array α} (h : SortedIn lt a b d) (he : ∀ k, a ≤ k → k < b → d'[k]! = d[k]!) : SortedIn lt a b d' := fun i j hi hij hj => by
  rw [he i hi (by omega), he j (by omega) hj]; exact h i j hi hij hj
/-- No later one is less than an earlier one, across two neighbours. -/
def Across (lt : α → α → Bool) (a m b : Nat) (d : Array α) : Prop := ∀ i j, a ≤ i → i < m → m ≤ j → j < b → lt d[j]! d[i]! = false
theorem SortedIn.join {a m b : Nat} {d : Array α} (h1 : SortedIn lt a m d) (h2 : SortedIn lt m b d) (h3 : Across lt a m b d) : SortedIn lt a b d := fun i j hi hij hj => by
  by_cases h4 : j < m
  · exact h1 i j hi hij h4
  · by_cases h5 : i < m
    · exact h3 i j hi h5 (by omega) hj
    · exact h2 i j (by omega) hij hj
/-- An order across stays where the two are permuted, each within itself. -/
theorem Across.perm {a m b : Nat} {d d1 d2 : Array α} (h : Across lt a m b d) (h1 : PermIn a m d d1) (h2 : PermIn m b d1 d2) (hb : b ≤ d.size) : Across lt a m b d2 := by
  intro i j hi him hmj hjb
  have e1 : d2[i]! = d1[i]! := h2.2.1 i (by omega)
  rw [e1]
  refine permIn_all d1 d2 m b (fun y => lt y d1[i]! = false) (by rw [h1.1]; exact hb) h2 (fun y hy1 hy2 => ?_) j hmj hjb
  have e2 : d1[y]! = d[y]! := h1.2.1 y (by omega)
  rw [e2]
  exact permIn_all d d1 a m (fun x => lt d[y]! x = false) (by omega) h1 (fun x hx1 hx2 => h x y hx1 hx2 hy1 hy2) i hi him

/-- Two sorted neighbours [a, m), [m, b), of which [s, m) and [m, e) are exchanged, so that what stands ahead of s + (e - m) is no greater than what stands behind it. -/
theorem rot_merges (hS : SWO lt) {a s m e b : Nat} {d d' : Array α} (h1 : SortedIn lt a m d) (h2 : SortedIn lt m b d) (has : a ≤ s) (hsm : s ≤ m) (hme : m ≤ e) (heb : e ≤ b) (hr : Rot s m e d d')
    (hlo : a < s → e < b → lt d[e]! d[s - 1]! = false) (hhi : s < m → m < e → lt d[e - 1]! d[s]! = true) :
    SortedIn lt a s d' ∧ SortedIn lt s (s + (e - m)) d' ∧ SortedIn lt (s + (e - m)) e d' ∧ SortedIn lt e b d' ∧ Across lt a (s + (e - m)) b d' := by
  have out : ∀ k, k < s ∨ e ≤ k → d'[k]! = d[k]! := fun k hk => by rw [hr.at_]; unfold rotAt; rw [if_neg (by omega)]
  have lo : ∀ k, s ≤ k → k < s + (e - m) → d'[k]! = d[k + (m - s)]! := fun k hk hk2 => by rw [hr.at_]; unfold rotAt; rw [if_pos (by omega), if_pos hk2]
  have hi : ∀ k, s + (e - m) ≤ k → k < e → d'[k]! = d[k - (e - m)]! := fun k hk hk2 => by rw [hr.at_]; unfold rotAt; rw [if_pos (by omega), if_neg (by omega)]
  -- no one of [m, e) is behind one of [s, m)
  have big : ∀ x y, s ≤ x → x < m → m ≤ y → y < e → lt d[x]! d[y]! = false := fun x y hx hxm hy hye => by
    have h3 := hhi (by omega) (by omega)
    have h4 : lt d[x]! d[s]! = false := by
      by_cases e1 : x = s
      · subst e1; exact hS.irrefl _
      · exact h1 s x has (by omega) hxm
    have h5 : lt d[e - 1]! d[y]! = false := by
      by_cases e1 : y = e - 1
      · subst e1; exact hS.irrefl _
      · exact h2 y (e - 1) hy (by omega) (by omega)
    cases h6 : lt d[x]! d[y]! with
    | false => rfl
    | true =>
      have h7 : lt d[e - 1]! d[s]! = false := hS.ntrans _ _ _ h5 (by
        cases h8 : lt d[y]! d[s]! with
        | false => rfl
        | true =>
          have := hS.trans _ _ _ h6 h8
          rw [h4] at this; cases this)
      rw [h3] at h7; cases h7
  refine ⟨SortedIn.same (SortedIn.sub h1 (Nat.le_refl _) hsm) fun k _ hk => out k (.inl hk), ?_, ?_, SortedIn.same (SortedIn.sub h2 hme (Nat.le_refl _)) fun k hk _ => out k (.inr hk), ?_⟩
  · intro i j hi1 hij hj
    rw [lo i hi1 (by omega), lo j (by omega) hj]
    exact h2 _ _ (by omega) (by omega) (by omega)
  · intro i j hi1 hij hj
    rw [hi i hi1 (by omega), hi j (by omega) hj]
    exact h1 _ _ (by omega) (by omega) (by omega)
  · intro i j hai him hmj hjb
    by_cases h3 : i < s
    · rw [out i (.inl h3)]
      by_cases h4 : j < e
      · rw [hi j hmj h4]
        exact h1 i _ hai (by omega) (by omega)
      · rw [out j (.inr (by omega))]
        have h5 := hlo (by omega) (by omega)
        have h6 : lt d[s - 1]! d[i]! = false := by
          by_cases e1 : i = s - 1
          · subst e1; exact hS.irrefl _
          · exact h1 i (s - 1) hai (by omega) (by omega)
        have h7 : lt d[j]! d[e]! = false := by
          by_cases e1 : j = e
          · subst e1; exact hS.irrefl _
          · exact h2 e j hme (by omega) hjb
        exact hS.ntrans _ _ _ h7 (hS.ntrans _ _ _ h5 h6)
    · rw [lo i (by omega) him]
      by_cases h4 : j < e
      · rw [hi j hmj h4]
        exact big _ _ (by omega) (by omega) (by omega) (by omega)
      · rw [out j (.inr (by omega))]
        exact h2 _ _ (by omega) (by omega) hjb

/-- Behind the rotation: four sorted pieces, and nothing behind mid is less than what stands ahead of it. -/
structure Parted (lt : α → α → Bool) (a s mid e b : Nat) (d : Array α) : Prop where
  p1 : SortedIn lt a s d
  p2 : SortedIn lt s mid d
  p3 : SortedIn lt mid e d
  p4 : SortedIn lt e b d
  ac : Across lt a mid b d
theorem Parted.lo {a s mid e b : Nat} {d : Array α} (h : Parted lt a s mid e b d) (hs : s = a ∨ s = mid) : SortedIn lt a mid d := by
  rcases hs with rfl | rfl
  · exact h.p2
  · exact h.p1
theorem Parted.hi {a s mid e b : Nat} {d d3 : Array α} (h : Parted lt a s mid e b d) (hp : PermIn a mid d d3) (hme : mid ≤ e) : SortedIn lt mid e d3 ∧ SortedIn lt e b d3 :=
  ⟨SortedIn.same h.p3 fun k hk _ => hp.2.1 k (.inr hk), SortedIn.same h.p4 fun k hk _ => hp.2.1 k (.inr (by omega))⟩
theorem Parted.up {a s mid e b : Nat} {d d3 : Array α} (h : Parted lt a s mid e b d) (hp : PermIn a mid d d3) (hme : mid ≤ e) (he : e = mid ∨ e = b) : SortedIn lt mid b d3 := by
  have h2 := h.hi hp hme
  rcases he with rfl | rfl
  · exact h2.2
  · exact h2.1
/-- Merged. -/
structure Merged (lt : α → α → Bool) (a b : Nat) (d d' : Array α) : Prop where
  perm : PermIn a b d d'
  sorted : SortedIn lt a b d'
theorem Merged.id {a b : Nat} {d : Array α} (h : SortedIn lt a b d) : Merged lt a b d d := ⟨permIn_refl d _ _, h⟩
theorem Parted.whole {a s m mid e b : Nat} {d d2 d3 d4 : Array α} (h : Parted lt a s mid e b d2) (hr : Rot s m e d d2) (has : a ≤ s) (heb : e ≤ b) (h3 : Merged lt a mid d2 d3) (h4 : Merged lt mid b d3 d4) (ham : a ≤ mid) (hmb : mid ≤ b) (hb : b ≤ d.size) : Merged lt a b d d4 := by
  have hz := hr.size
  have hz3 := h3.perm.1
  refine ⟨permIn_trans _ _ _ _ _ (permIn_wide hr.perm has heb hb) (permIn_trans _ _ _ _ _ (permIn_wide h3.perm (Nat.le_refl _) hmb (by omega)) (permIn_wide h4.perm ham (Nat.le_refl _) (by omega))), ?_⟩
  exact SortedIn.join (SortedIn.same h3.sorted fun k _ hk => h4.perm.2.1 k (.inl hk)) h4.sorted (h.ac.perm h3.perm h4.perm (by omega))

/-- The first of two neighbours has one element: it goes behind all that are less. -/
theorem merge_left (hS : SWO lt) {a i b : Nat} {d d' : Array α} (h2 : SortedIn lt (a + 1) b d) (hi : a + 1 ≤ i) (hib : i ≤ b) (hb : b ≤ d.size) (hlo : a + 1 < i → lt d[i - 1]! d[a]! = true) (hhi : i < b → lt d[i]! d[a]! = false) (hr : Rot a (a + 1) i d d') : Merged lt a b d d' := by
  obtain ⟨g1, g2, g3, g4, g5⟩ := rot_merges hS (a := a) (s := a) (m := a + 1) (e := i) (b := b) (SortedIn.short d (by omega)) h2 (Nat.le_refl _) (by omega) hi hib hr (fun h _ => absurd h (Nat.lt_irrefl _)) (fun _ h => hlo h)
  refine ⟨permIn_wide hr.perm (Nat.le_refl _) hib hb, SortedIn.join g2 (SortedIn.join g3 g4 ?_) g5⟩
  intro p q hp hpi hq hqb
  obtain rfl : p = a + (i - (a + 1)) := by omega
  have e1 : d'[a + (i - (a + 1))]! = d[a]! := by rw [hr.at_]; unfold rotAt; rw [if_pos (by omega), if_neg (by omega)]; exact at_eq _ (by omega)
  have e2 : d'[q]! = d[q]! := by rw [hr.at_]; unfold rotAt; rw [if_neg (by omega)]
  rw [e1, e2]
  by_cases e3 : q = i
  · subst e3; exact hhi hqb
  · exact hS.ntrans _ _ _ (h2 i q hi (by omega) hqb) (hhi (by omega))
/-- The second of two neighbours has one element: it goes ahead of all that are greater. -/
theorem merge_right (hS : SWO lt) {a i m : Nat} {d d' : Array α} (h1 : SortedIn lt a m d) (hai : a ≤ i) (him : i ≤ m) (hb : m + 1 ≤ d.size) (hlo : a < i → lt d[m]! d[i - 1]! = false) (hhi : i < m → lt d[m]! d[i]! = true) (hr : Rot i m (m + 1) d d') : Merged lt a (m + 1) d d' := by
  obtain ⟨g1, g2, g3, g4, g5⟩ := rot_merges hS (a := a) (s := i) (m := m) (e := m + 1) (b := m + 1) h1 (SortedIn.short d (by omega)) hai him (by omega) (Nat.le_refl _) hr (fun _ h => absurd h (Nat.lt_irrefl _)) (fun h _ => by rw [show m + 1 - 1 = m by omega]; exact hhi h)
  refine ⟨permIn_wide hr.perm hai (Nat.le_refl _) hb, SortedIn.join (SortedIn.join g1 g2 ?_) g3 g5⟩
  intro p q hp hpi hq hqb
  obtain rfl : q = i := by omega
  have e1 : d'[q]! = d[m]! := by rw [hr.at_]; unfold rotAt; rw [if_pos (by omega), if_pos (by omega)]; exact at_eq _ (by omega)
  have e2 : d'[p]! = d[p]! := by rw [hr.at_]; unfold rotAt; rw [if_neg (by omega)]
  rw [e1, e2]
  by_cases e3 : p = q - 1
  · subst e3; exact hlo (by omega)
  · exact hS.ntrans _ _ _ (hlo (by omega)) (h1 p (q - 1) hp (by omega) (by omega))
end
end Drawbar.Stab
