/- The line's machine on blanks and on texts as words. -/
import Derived.Test.YthldbcngbkemnaaFlat
namespace Go.Proofs.Ythldbcngbkemnaa
open Go.RowKit
open Drawbar Drawbar.Line Drawbar.Sign Drawbar.Esc

theorem run_app {σ : Type} (step : σ → Nat → Nat × σ) : ∀ (a b : List Nat) (st x : σ), runS step st a = (0, x) → runS step st (a ++ b) = runS step x b := by
  intro a
  induction a with
  | nil => intro b st x h; unfold runS at h; cases h; rfl
  | cons r a ih =>
    intro b st x h
    rw [List.cons_append]
    have e1 : ∀ l, runS step st (r :: l) = if (step st r).1 = 0 then runS step (step st r).2 l else step st r := fun _ => rfl
    rw [e1] at h ⊢
    by_cases c : (step st r).1 = 0
    · rw [if_pos c] at h ⊢
      exact ih b _ x h
    · rw [if_neg c] at h
      rw [h] at c
      exact absurd rfl c
theorem run_one {σ : Type} (step : σ → Nat → Nat × σ) (st x : σ) (r : Nat) (h : step st r = (0, x)) : runS step st [r] = (0, x) := by
  unfold runS
  rw [h, if_pos rfl]; rfl

/-- The signs of a text with its escapes. -/
def escS (r : Nat) : List Nat := if isE r = true then [92, snd r] else [r]
def fitS (rs : List Nat) : Prop := ∀ r ∈ rs, 32 ≤ r ∨ r = 10 ∨ r = 9
/-- The signs of a text as a word. -/
def wordS (rs : List Nat) : List Nat := if rs ≠ [] ∧ ∀ r ∈ rs, okS r then rs else 34 :: rs.flatMap escS ++ [34]
theorem enc_len_eq (r : Nat) : (enc r).length = rlen r := enc_length r
theorem valid_small (r : Nat) (h : r < 128) : Utf8.valid (r : Int) = true := by
  simp [Utf8.valid]; omega
theorem isE_iff (r : Nat) : isE r = true ↔ r = 34 ∨ r = 92 ∨ r = 10 ∨ r = 9 := by
  unfold isE
  simp only [Bool.or_eq_true, beq_iff_eq]
  omega
theorem snd_lt (r : Nat) (h : isE r = true) : snd r < 128 := by
  rw [isE_iff] at h
  rcases h with rfl | rfl | rfl | rfl <;> decide
theorem valid_escS (r : Nat) (h : Utf8.valid (r : Int) = true) : validS (escS r) := by
  intro x hx
  unfold escS at hx
  split at hx
  · rename_i c
    simp at hx
    rcases hx with rfl | rfl
    · exact valid_small _ (by omega)
    · exact valid_small _ (snd_lt r c)
  · simp at hx; rw [hx]; exact h
theorem valid_wordS (rs : List Nat) (hv : validS rs) : validS (wordS rs) := by
  unfold wordS
  split
  · exact hv
  · intro x hx
    simp only [List.cons_append, List.mem_cons, List.mem_append, List.mem_flatMap, List.not_mem_nil, or_false] at hx
    rcases hx with rfl | ⟨r, hr, hx⟩ | rfl
    · exact valid_small _ (by omega)
    · exact valid_escS r (hv r hr) x hx
    · exact valid_small _ (by omega)
theorem esc_enc (r : Nat) : esc (enc r) = flat (escS r) := by
  by_cases c : r < 128
  · rw [(enc1 c).1]
    unfold escS
    have e1 : esc [r] = escB r := by simp [esc]
    rw [e1]
    unfold escB
    by_cases h : isE r = true
    · rw [if_pos h, flat_cons, flat_cons, (enc1 (snd_lt r h)).1, (enc1 (by omega : 92 < 128)).1]; rfl
    · rw [if_neg h, flat_cons, (enc1 c).1]; rfl
  · have h : ¬ isE r = true := by rw [isE_iff]; omega
    unfold escS
    rw [if_neg h, flat_cons]
    have h2 : cntE (enc r) = 0 := by
      have hz : ∀ l : List Nat, (∀ x ∈ l, 128 ≤ x) → cntE l = 0 := by
        intro l
        induction l with
        | nil => intro _; rfl
        | cons a l ih =>
          intro h
          show (if isE a = true then 1 else 0) + cntE l = 0
          have ha := h a List.mem_cons_self
          rw [if_neg (by rw [isE_iff]; omega), ih (fun x hx => h x (List.mem_cons_of_mem _ hx))]
      apply hz
      intro x hx
      unfold enc at hx
      rw [if_neg c] at hx
      split at hx
      · simp at hx; omega
      · split at hx <;> simp at hx <;> omega
    rw [esc_none _ h2]
    show _ = enc r ++ []
    rw [List.append_nil]
theorem esc_flat (rs : List Nat) : esc (flat rs) = flat (rs.flatMap escS) := by
  induction rs with
  | nil => rfl
  | cons r rs ih => rw [flat_cons, esc_app, ih, esc_enc, List.flatMap_cons, flat_app]
theorem flat_nil_iff (rs : List Nat) : flat rs = [] ↔ rs = [] := by
  cases rs with
  | nil => exact ⟨fun _ => rfl, fun _ => rfl⟩
  | cons r rs =>
    rw [flat_cons]
    have := (rlen_le r).1
    rw [← enc_length] at this
    constructor
    · intro h
      have h2 := congrArg List.length h
      rw [List.length_append, List.length_nil] at h2
      omega
    · intro h; cases h
/-- What Quote tells, in signs. -/
theorem word_flat (rs : List Nat) (hv : validS rs) : quoteR (flat rs) = flat (wordS rs) := by
  unfold quoteR wordS
  have e : (flat rs ≠ [] ∧ bareR (strOf (flat rs)) = true) ↔ (rs ≠ [] ∧ ∀ r ∈ rs, okS r) := by rw [bare_flat rs hv, decide_eq_true_eq, Ne, flat_nil_iff]
  by_cases c : rs ≠ [] ∧ ∀ r ∈ rs, okS r
  · rw [if_pos (e.2 c), if_pos c]
  · rw [if_neg (mt e.1 c), if_neg c, flat_app, flat_cons, flat_cons, (enc1 (by omega : 34 < 128)).1, esc_flat]; rfl

theorem part_no {r : Nat} (h : okS r) : ¬ isPart r = true := by
  unfold okS at h
  unfold isPart
  simp only [Bool.or_eq_true, beq_iff_eq]
  omega
theorem run_bare (out : List ByteArray) : ∀ (rs wd : List Nat), (∀ r ∈ rs, okS r) → wd.length + (flat rs).length ≤ 200 → runS Ln.take ⟨out, wd, 1⟩ rs = (0, ⟨out, wd ++ flat rs, 1⟩) := by
  intro rs
  induction rs with
  | nil => intro wd _ _; show (0, _) = _; rw [show flat [] = [] from rfl, List.append_nil]
  | cons r rs ih =>
    intro wd hok hlen
    rw [flat_cons, List.length_append, enc_len_eq] at hlen
    have h := hok r List.mem_cons_self
    have ht : (⟨out, wd, 1⟩ : Ln).take r = (0, ⟨out, wd ++ enc r, 1⟩) := by
      rw [take_bare, if_neg (part_no h), if_neg (by unfold okS at h; omega), if_neg (by omega)]
    unfold runS
    rw [ht, if_pos rfl, ih _ (fun x hx => hok x (List.mem_cons_of_mem _ hx)) (by rw [List.length_append, enc_len_eq]; omega), flat_cons, List.append_assoc]
theorem run_bare0 (out : List ByteArray) (rs : List Nat) (h0 : rs ≠ []) (hok : ∀ r ∈ rs, okS r) (hlen : (flat rs).length ≤ 200) : runS Ln.take ⟨out, [], 0⟩ rs = (0, ⟨out, flat rs, 1⟩) := by
  have h1 := run_bare out rs [] hok (by simpa using hlen)
  cases rs with
  | nil => exact absurd rfl h0
  | cons r rs =>
    have h := hok r List.mem_cons_self
    have hf := take_first out r (part_no h) (by unfold okS at h; omega)
    have ht : ((⟨out, [], 1⟩ : Ln).take r).1 = 0 := by
      rw [flat_cons, List.length_append, enc_len_eq] at hlen
      rw [take_bare, if_neg (part_no h), if_neg (by unfold okS at h; omega), if_neg (by simp; omega)]
    have e := hf.2 (hf.1.trans ht)
    unfold runS at h1 ⊢
    rw [e]
    exact h1
theorem run_escS (out : List ByteArray) (wd : List Nat) (r : Nat) (hf : 32 ≤ r ∨ r = 10 ∨ r = 9) (hlen : wd.length + (enc r).length ≤ 200) : runS Ln.take ⟨out, wd, 2⟩ (escS r) = (0, ⟨out, wd ++ enc r, 2⟩) := by
  rw [enc_len_eq] at hlen
  unfold escS
  by_cases c : isE r = true
  · rw [if_pos c]
    have h92 : (⟨out, wd, 2⟩ : Ln).take 92 = (0, ⟨out, wd, 3⟩) := by
      rw [take_quoted, if_neg (by omega), if_neg (by omega), if_pos rfl]
    have hadd : (⟨out, wd, 2⟩ : Ln).add r = (0, ⟨out, wd ++ enc r, 2⟩) := by
      unfold Ln.add
      rw [if_neg (by dsimp only; omega)]
    have h2 : (⟨out, wd, 3⟩ : Ln).take (snd r) = (0, ⟨out, wd ++ enc r, 2⟩) := by
      rw [take_slashed, ← hadd]
      rw [isE_iff] at c
      rcases c with rfl | rfl | rfl | rfl
      · rw [if_pos (.inl rfl)]; rfl
      · rw [if_pos (.inr rfl)]; rfl
      · rfl
      · rfl
    unfold runS
    rw [h92, if_pos rfl]
    exact run_one _ _ _ _ h2
  · rw [if_neg c]
    rw [isE_iff] at c
    apply run_one
    rw [take_quoted, if_neg (by omega), if_neg (by omega), if_neg (by omega), if_neg (by omega)]
theorem run_esc (out : List ByteArray) : ∀ (rs wd : List Nat), fitS rs → wd.length + (flat rs).length ≤ 200 → runS Ln.take ⟨out, wd, 2⟩ (rs.flatMap escS) = (0, ⟨out, wd ++ flat rs, 2⟩) := by
  intro rs
  induction rs with
  | nil => intro wd _ _; show (0, _) = _; rw [show flat [] = [] from rfl, List.append_nil]
  | cons r rs ih =>
    intro wd hf hlen
    rw [flat_cons, List.length_append] at hlen
    rw [List.flatMap_cons, run_app _ _ _ _ _ (run_escS out wd r (hf r List.mem_cons_self) (by omega)),
      ih _ (fun x hx => hf x (List.mem_cons_of_mem _ hx)) (by rw [List.length_append]; omega), flat_cons, List.append_assoc]
/-- A text as a word, from between two words. -/
theorem run_word (out : List ByteArray) (rs : List Nat) (hf : fitS rs) (hlen : (flat rs).length ≤ 200) : ∃ t, (t = 1 ∨ t = 4) ∧ runS Ln.take ⟨out, [], 0⟩ (wordS rs) = (0, ⟨out, flat rs, t⟩) := by
  unfold wordS
  by_cases c : rs ≠ [] ∧ ∀ r ∈ rs, okS r
  · rw [if_pos c]
    exact ⟨1, .inl rfl, run_bare0 out rs c.1 c.2 hlen⟩
  · rw [if_neg c]
    refine ⟨4, .inr rfl, ?_⟩
    have h1 : runS Ln.take ⟨out, [], 0⟩ [34] = (0, ⟨out, [], 2⟩) := run_one _ _ _ _ (take_quote out)
    have h2 := run_esc out rs [] hf (by simpa using hlen)
    rw [List.nil_append] at h2
    show runS Ln.take ⟨out, [], 0⟩ ([34] ++ (rs.flatMap escS ++ [34])) = _
    rw [run_app _ _ _ _ _ h1, run_app _ _ _ _ _ h2]
    apply run_one
    rw [take_quoted, if_neg (by omega), if_pos rfl]

/-- The line has these words, when it ends here, or a blank follows. -/
def Clr (x : Ln) (ls : List ByteArray) : Prop := (∀ r, isPart r = true → x.take r = (0, ⟨ls, [], 0⟩)) ∧ x.end' = (0, ⟨ls, [], 0⟩)
theorem clr_start (ls : List ByteArray) : Clr ⟨ls, [], 0⟩ ls := ⟨fun r h => take_between ls r h, rfl⟩
theorem clr_word (ls : List ByteArray) (wd : List Nat) (t : Nat) (ht : t = 1 ∨ t = 4) : Clr ⟨ls, wd, t⟩ (ls ++ [strOf wd]) := by
  rcases ht with rfl | rfl
  · exact ⟨fun r h => by rw [take_bare, if_pos h], rfl⟩
  · exact ⟨fun r h => by rw [take_closed, if_pos h], rfl⟩
theorem run_blanks (ls : List ByteArray) : ∀ (bs : List Nat), (∀ r ∈ bs, isPart r = true) → runS Ln.take ⟨ls, [], 0⟩ bs = (0, ⟨ls, [], 0⟩) := by
  intro bs
  induction bs with
  | nil => intro _; rfl
  | cons b bs ih =>
    intro h
    unfold runS
    rw [take_between ls b (h b List.mem_cons_self), if_pos rfl]
    exact ih (fun x hx => h x (List.mem_cons_of_mem _ hx))
theorem clr_blanks {x : Ln} {ls : List ByteArray} (h : Clr x ls) (b : Nat) (bs : List Nat) (hb : ∀ r ∈ b :: bs, isPart r = true) : runS Ln.take x (b :: bs) = (0, ⟨ls, [], 0⟩) := by
  unfold runS
  rw [h.1 b (hb b List.mem_cons_self), if_pos rfl]
  exact run_blanks ls bs (fun x hx => hb x (List.mem_cons_of_mem _ hx))

/-- A text that is a line of these words. -/
def LineOf (t : ByteArray) (ls : List ByteArray) : Prop := ∃ ss x, validS ss ∧ t = strOf (flat ss) ∧ runS Ln.take ⟨[], [], 0⟩ ss = (0, x) ∧ Clr x ls
/-- The same, with a blank at its end, or empty. -/
def LineB (t : ByteArray) (ls : List ByteArray) : Prop := ∃ ss, validS ss ∧ t = strOf (flat ss) ∧ runS Ln.take ⟨[], [], 0⟩ ss = (0, ⟨ls, [], 0⟩)
theorem LineB.line {t : ByteArray} {ls : List ByteArray} (h : LineB t ls) : LineOf t ls := by
  obtain ⟨ss, h1, h2, h3⟩ := h
  exact ⟨ss, _, h1, h2, h3, clr_start ls⟩
theorem lineB_nil : LineB ⟨#[]⟩ [] := ⟨[], fun _ h => absurd h List.not_mem_nil, rfl, rfl⟩
theorem validS_app {a b : List Nat} (ha : validS a) (hb : validS b) : validS (a ++ b) := fun r hr => (List.mem_append.1 hr).elim (ha r) (hb r)
theorem LineOf.blank {t : ByteArray} {ls : List ByteArray} (h : LineOf t ls) (b : Nat) (bs : List Nat) (hb : ∀ r ∈ b :: bs, isPart r = true) : LineB (t ++ strOf (flat (b :: bs))) ls := by
  obtain ⟨ss, x, h1, rfl, h3, h4⟩ := h
  refine ⟨ss ++ b :: bs, validS_app h1 fun r hr => ?_, by rw [flat_app, str_app], by rw [run_app _ _ _ _ _ h3]; exact clr_blanks h4 b bs hb⟩
  have := hb r hr
  unfold isPart at this
  simp only [Bool.or_eq_true, beq_iff_eq] at this
  rcases this with (rfl | rfl) | rfl <;> decide
theorem LineB.word {t : ByteArray} {ls : List ByteArray} (h : LineB t ls) (rs : List Nat) (hv : validS rs) (hf : fitS rs) (hlen : (flat rs).length ≤ 200) : LineOf (t ++ strOf (quoteR (flat rs))) (ls ++ [strOf (flat rs)]) := by
  obtain ⟨ss, h1, rfl, h3⟩ := h
  obtain ⟨k, hk, hr⟩ := run_word ls rs hf hlen
  refine ⟨ss ++ wordS rs, _, validS_app h1 (valid_wordS rs hv), by rw [word_flat rs hv, flat_app, str_app], by rw [run_app _ _ _ _ _ h3]; exact hr, clr_word ls _ k hk⟩
theorem LineOf.words {t : ByteArray} {ls : List ByteArray} (h : LineOf t ls) (hs : t.size ≤ 400) : wordsR t = (ls, 0, 0) := by
  obtain ⟨ss, x, h1, rfl, h3, h4⟩ := h
  rw [wordsR_fin _ hs]
  have hr := eachR_run Ln.take ss ⟨[], [], 0⟩ h1
  rw [h3] at hr
  obtain ⟨e1, e2⟩ := Prod.mk.inj hr
  unfold fin
  rw [e1, e2, if_neg (by simp), h4.2]
  rfl
/-- A text as its bytes: whole, and no byte of control but 9 and 10. -/
theorem fit_signs (L : List Nat) (hL : ∀ x ∈ L, x < 256) (hw : (cntR (strOf L)).2 = true) (hb : ∀ x ∈ L, 32 ≤ x ∨ x = 10 ∨ x = 9) : ∃ rs, validS rs ∧ fitS rs ∧ L = flat rs := by
  obtain ⟨rs, hv, rfl⟩ := flat_whole L hL hw
  refine ⟨rs, hv, fun r hr => ?_, rfl⟩
  by_cases c : r < 128
  · apply hb
    unfold flat
    rw [List.mem_flatMap]
    exact ⟨r, hr, by rw [(enc1 c).1]; exact List.mem_cons_self⟩
  · omega
end Go.Proofs.Ythldbcngbkemnaa
