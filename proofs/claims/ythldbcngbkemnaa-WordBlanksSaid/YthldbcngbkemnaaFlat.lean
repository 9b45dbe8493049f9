/- A whole text as a row of signs; what is bare; Quote is the document's. -/
import Derived.Test.YthldbcngbkemnaaRefQ
import Derived.Test.YthldbcngbkemnaaRefCount
namespace Go.Proofs.Ythldbcngbkemnaa
open Go.RowKit
open Drawbar Drawbar.Line Drawbar.Sign Drawbar.Esc

theorem str_inj {l m : List Nat} (hl : ∀ x ∈ l, x < 256) (hm : ∀ x ∈ m, x < 256) (h : strOf l = strOf m) : l = m := by
  have h2 : (strOf l).toList.map UInt8.toNat = (strOf m).toList.map UInt8.toNat := by rw [h]
  rw [toList_str, toList_str, map_back l hl, map_back m hm] at h2
  exact h2
/-- The bytes of a row of signs. -/
def flat (rs : List Nat) : List Nat := rs.flatMap enc
theorem flat_cons (r : Nat) (rs : List Nat) : flat (r :: rs) = enc r ++ flat rs := by simp [flat]
def validS (rs : List Nat) : Prop := ∀ r ∈ rs, Utf8.valid (r : Int) = true

theorem flat_of (L : List Nat) (hL : ∀ x ∈ L, x < 256) : ∀ f p n, L.length ≤ p + f → (eachR cstep (strOf L) f p n).1.2 = 0 → ∃ rs, validS rs ∧ L.drop p = flat rs := by
  intro f
  have hsz := size_str L
  induction f with
  | zero =>
    intro p n hp _
    exact ⟨[], fun _ h => absurd h List.not_mem_nil, by rw [List.drop_eq_nil_of_le (by omega)]; rfl⟩
  | succ f ih =>
    intro p n hp he
    by_cases hlt : p < (strOf L).size
    · rw [eachR_succ cstep _ f p n hlt] at he
      by_cases hz : (sgn (strOf L) p).1 = 0
      · rw [if_pos hz] at he; exact absurd he (by simp)
      · rw [if_neg hz, if_pos (show (cstep n (sgn (strOf L) p).2).1 = 0 from rfl)] at he
        have hle := sgn_le (strOf L) p hlt
        obtain ⟨rs, hv, hr⟩ := ih (p + (sgn (strOf L) p).1) _ (by omega) he
        have hx := sgn_extract (strOf L) p hlt hz
        rw [ext_str, show p + (sgn (strOf L) p).1 - p = (sgn (strOf L) p).1 by omega] at hx
        have hx2 := str_inj (fun x hx => hL x (List.mem_of_mem_drop (List.mem_of_mem_take hx))) (enc_lt _ hle.2.1) hx
        refine ⟨(sgn (strOf L) p).2 :: rs, ?_, ?_⟩
        · intro r hr2
          rcases List.mem_cons.1 hr2 with rfl | h
          · exact hle.2.2 hz
          · exact hv r h
        · rw [flat_cons, ← hx2, ← hr, ← List.drop_drop]
          exact (List.take_append_drop _ _).symm
    · exact ⟨[], fun _ h => absurd h List.not_mem_nil, by rw [List.drop_eq_nil_of_le (by omega)]; rfl⟩
theorem flat_whole (L : List Nat) (hL : ∀ x ∈ L, x < 256) (h : (cntR (strOf L)).2 = true) : ∃ rs, validS rs ∧ L = flat rs := by
  unfold cntR at h
  split at h
  · rename_i h1
    obtain ⟨rs, hv, hr⟩ := flat_of L hL (strOf L).size 0 0 (by rw [size_str]; omega) h1
    exact ⟨rs, hv, hr⟩
  · cases h

/-- A machine on a row of signs. -/
def runS {σ : Type} (step : σ → Nat → Nat × σ) : σ → List Nat → Nat × σ
  | st, [] => (0, st)
  | st, r :: rs => if (step st r).1 = 0 then runS step (step st r).2 rs else step st r
theorem eachR_run {σ : Type} (step : σ → Nat → Nat × σ) : ∀ (rs : List Nat) (st : σ), validS rs →
    ((eachR step (strOf (flat rs)) (strOf (flat rs)).size 0 st).1.2, (eachR step (strOf (flat rs)) (strOf (flat rs)).size 0 st).2) = runS step st rs := by
  intro rs
  induction rs with
  | nil =>
    intro st _
    rw [eachR_end step _ _ 0 st (by rw [size_str]; exact Nat.lt_irrefl 0)]; rfl
  | cons r rs ih =>
    intro st hv
    have hr := hv r List.mem_cons_self
    have ih2 := ih (step st r).2 (fun x hx => hv x (List.mem_cons_of_mem _ hx))
    rw [flat_cons, str_app, eachR_one step (strOf (enc r)) (strOf (flat rs)) r st (enc_pos r) (sgn_str r hr)]
    unfold runS
    by_cases h : (step st r).1 = 0
    · rw [if_pos h, if_pos h, ← ih2]; rfl
    · rw [if_neg h, if_neg h]

/-- May this sign stand in a bare word? -/
def okS (r : Nat) : Prop := 32 < r ∧ r ≠ 34 ∧ r ≠ 92 ∧ r ≠ 127 ∧ r ≠ 12288
instance (r : Nat) : Decidable (okS r) := by unfold okS; exact inferInstance
theorem bstep_ok (r : Nat) : (bstep () r).1 = 0 ↔ okS r := by
  rw [bstep_fst]
  have : (plain r = true ∧ r ≠ 92) ↔ okS r := by
    unfold plain okS
    simp only [Bool.and_eq_true, decide_eq_true_eq, bne_iff_ne]
    omega
  rw [← this]
  by_cases c : plain r = true ∧ r ≠ 92
  · rw [if_pos c]; exact ⟨fun _ => c, fun _ => rfl⟩
  · rw [if_neg c]; exact ⟨fun h => absurd h (by decide), fun h => absurd h c⟩
theorem bare_flat (rs : List Nat) (hv : validS rs) : bareR (strOf (flat rs)) = decide (∀ r ∈ rs, okS r) := by
  have h : ∀ rs : List Nat, (runS bstep () rs).1 = 0 ↔ ∀ r ∈ rs, okS r := by
    intro rs
    induction rs with
    | nil => exact ⟨fun _ _ h => absurd h List.not_mem_nil, fun _ => rfl⟩
    | cons r rs ih =>
      unfold runS
      by_cases hb : (bstep () r).1 = 0
      · rw [if_pos hb, ih]
        have := (bstep_ok r).1 hb
        simp [this]
      · rw [if_neg hb]
        have := mt (bstep_ok r).2 hb
        simp [this, hb]
  unfold bareR
  have hr := congrArg Prod.fst (eachR_run bstep rs () hv)
  dsimp only at hr
  rw [hr, decide_eq_decide]
  exact h rs

theorem wide_iff (L : List Nat) (i : Nat) : wide L i ↔ L.getD i 0 = 227 ∧ L.getD (i + 1) 0 = 128 ∧ L.getD (i + 2) 0 = 128 := by
  have e : ∀ j, L.getD (i + j) 0 = (L.drop i).getD j 0 := fun j => by simp [List.getD_eq_getElem?_getD, List.getElem?_drop]
  have hlen : (L.drop i).length = L.length - i := List.length_drop
  have e0 := e 0
  rw [Nat.add_zero] at e0
  unfold wide
  rw [e0, e 1, e 2]
  generalize L.drop i = M at *
  constructor
  · rintro ⟨h1, h2⟩
    match M, h2 with
    | [], h2 => simp at h2
    | [a], h2 => simp at h2
    | [a, b], h2 => simp at h2
    | a :: b :: c :: t, h2 =>
      simp at h2
      obtain ⟨rfl, rfl, rfl⟩ := h2
      exact ⟨rfl, rfl, rfl⟩
  · rintro ⟨h0, h1, h2⟩
    match M, hlen, h0, h1, h2 with
    | [], _, h0, _, _ => simp at h0
    | [a], _, _, h1, _ => simp at h1
    | [a, b], _, _, _, h2 => simp at h2
    | a :: b :: c :: t, hlen, h0, h1, h2 =>
      simp at h0 h1 h2 hlen
      subst h0 h1 h2
      exact ⟨by omega, rfl⟩

theorem getD_left (a b : List Nat) (k : Nat) (h : k < a.length) : (a ++ b).getD k 0 = a.getD k 0 := by
  simp [List.getD_eq_getElem?_getD, List.getElem?_append_left h]
theorem getD_right (a b : List Nat) (k : Nat) : (a ++ b).getD (a.length + k) 0 = b.getD k 0 := by
  simp [List.getD_eq_getElem?_getD, List.getElem?_append_right]

theorem byte_flat (rs : List Nat) (hv : validS rs) : ∀ k, k < (flat rs).length → ∃ r ∈ rs, (badB (flat rs) k → ¬ okS r) ∧ (wide (flat rs) k → ¬ okS r) := by
  induction rs with
  | nil => intro k hk; exact absurd hk (Nat.not_lt_zero _)
  | cons r rs ih =>
    intro k hk
    rw [flat_cons] at hk ⊢
    by_cases hlt : k < (enc r).length
    · refine ⟨r, List.mem_cons_self, ?_, ?_⟩
      · intro hb
        unfold badB at hb
        rw [getD_left _ _ _ hlt] at hb
        unfold okS
        unfold enc at hb hlt
        split at hb
        · rename_i c
          rw [if_pos c] at hlt
          have : k = 0 := by simp at hlt; omega
          subst this
          simp at hb; omega
        · rename_i c
          exfalso
          split at hb
          · rename_i c2
            rw [if_neg c, if_pos c2] at hlt
            simp at hlt
            rcases (by omega : k = 0 ∨ k = 1) with rfl | rfl <;> simp at hb <;> omega
          · rename_i c2
            split at hb
            · rename_i c3
              rw [if_neg c, if_neg c2, if_pos c3] at hlt
              simp at hlt
              rcases (by omega : k = 0 ∨ k = 1 ∨ k = 2) with rfl | rfl | rfl <;> simp at hb <;> omega
            · rename_i c3
              rw [if_neg c, if_neg c2, if_neg c3] at hlt
              simp at hlt
              rcases (by omega : k = 0 ∨ k = 1 ∨ k = 2 ∨ k = 3) with rfl | rfl | rfl | rfl <;> simp at hb <;> omega
      · intro hw
        rw [wide_iff] at hw
        obtain ⟨h0, h1, h2⟩ := hw
        rw [getD_left _ _ _ hlt] at h0
        have hval := hv r List.mem_cons_self
        have hr : r ≤ 1114111 := by
          simp [Utf8.valid] at hval; omega
        unfold okS
        by_cases c : r < 128
        · rw [(enc1 c).1] at h0 hlt
          have : k = 0 := by simp at hlt; omega
          subst this
          simp at h0; omega
        by_cases c2 : r < 2048
        · rw [(enc2 (by omega) c2).1] at h0 hlt
          simp at hlt
          rcases (by omega : k = 0 ∨ k = 1) with rfl | rfl <;> simp at h0 <;> omega
        by_cases c3 : r < 65536
        · rw [(enc3 (by omega) c3).1] at h0 hlt h1 h2
          simp at hlt
          rcases (by omega : k = 0 ∨ k = 1 ∨ k = 2) with rfl | rfl | rfl
          · simp at h0 h1 h2; omega
          · simp at h0; omega
          · simp at h0; omega
        · rw [(enc4 (by omega)).1] at h0 hlt
          simp at hlt
          rcases (by omega : k = 0 ∨ k = 1 ∨ k = 2 ∨ k = 3) with rfl | rfl | rfl | rfl <;> simp at h0 <;> omega
    · obtain ⟨j, rfl⟩ : ∃ j, k = (enc r).length + j := ⟨k - (enc r).length, by omega⟩
      obtain ⟨q, hq, h1, h2⟩ := ih (fun x hx => hv x (List.mem_cons_of_mem _ hx)) j (by rw [List.length_append] at hk; omega)
      refine ⟨q, List.mem_cons_of_mem _ hq, ?_, ?_⟩
      · intro hb; apply h1
        unfold badB at hb ⊢
        rw [getD_right] at hb; exact hb
      · intro hw; apply h2
        rw [wide_iff] at hw ⊢
        rw [getD_right, Nat.add_assoc, getD_right, Nat.add_assoc, getD_right] at hw; exact hw
theorem flat_app (a b : List Nat) : flat (a ++ b) = flat a ++ flat b := by simp [flat]
theorem sign_flat (rs : List Nat) (r : Nat) (h : r ∈ rs) (hno : ¬ okS r) : ∃ k, k < (flat rs).length ∧ (badB (flat rs) k ∨ wide (flat rs) k) := by
  obtain ⟨a, b, rfl⟩ := List.append_of_mem h
  rw [flat_app, flat_cons]
  refine ⟨(flat a).length + 0, ?_, ?_⟩
  · have : 0 < (enc r).length := by rw [enc_length]; exact (rlen_le r).1
    rw [List.length_append, List.length_append]; omega
  · by_cases c : r < 128
    · left
      unfold badB
      rw [getD_right, (enc1 c).1]
      unfold okS at hno
      show r ≤ 32 ∨ r = 34 ∨ r = 92 ∨ r = 127
      omega
    · right
      have : r = 12288 := by unfold okS at hno; omega
      subst this
      rw [wide_iff, getD_right, Nat.add_assoc, getD_right, Nat.add_assoc, getD_right]
      exact ⟨rfl, rfl, rfl⟩
theorem pl_iff (L : List Nat) : ∀ n, plB L n = true ↔ L ≠ [] ∧ ∀ k, k < n → ¬ (badB L k ∨ wide L k) := by
  intro n
  induction n with
  | zero => simp [plB]
  | succ n ih =>
    unfold plB
    by_cases h : badB L n ∨ wide L n
    · rw [if_pos h]
      exact ⟨fun h => (Bool.false_ne_true h).elim, fun h2 => absurd h (h2.2 n (by omega))⟩
    · rw [if_neg h, ih]
      refine ⟨fun h2 => ⟨h2.1, fun k hk => ?_⟩, fun h2 => ⟨h2.1, fun k hk => h2.2 k (by omega)⟩⟩
      by_cases e : k = n
      · rw [e]; exact h
      · exact h2.2 k (by omega)
theorem pl_flat (rs : List Nat) (hv : validS rs) : plB (flat rs) (flat rs).length = true ↔ flat rs ≠ [] ∧ ∀ r ∈ rs, okS r := by
  rw [pl_iff]
  refine and_congr_right fun _ => ⟨fun h r hr => ?_, fun h k hk hb => ?_⟩
  · by_cases c : okS r
    · exact c
    · obtain ⟨k, hk, hb⟩ := sign_flat rs r hr c
      exact absurd hb (h k hk)
  · obtain ⟨r, hr, h1, h2⟩ := byte_flat rs hv k hk
    rcases hb with hb | hb
    · exact h1 hb (h r hr)
    · exact h2 hb (h r hr)
/-- Quote is the document's, for a whole text. -/
theorem quote_same (rs : List Nat) (hv : validS rs) : quoteR (flat rs) = refQ (flat rs) := by
  unfold quoteR refQ
  have h1 := bare_flat rs hv
  have h2 := pl_flat rs hv
  have e : (flat rs ≠ [] ∧ bareR (strOf (flat rs)) = true) ↔ plB (flat rs) (flat rs).length = true := by
    rw [h1, h2, decide_eq_true_eq]
  by_cases c : plB (flat rs) (flat rs).length = true
  · rw [if_pos c, if_pos (e.2 c)]
  · rw [if_neg c, if_neg (mt e.1 c)]
end Go.Proofs.Ythldbcngbkemnaa
