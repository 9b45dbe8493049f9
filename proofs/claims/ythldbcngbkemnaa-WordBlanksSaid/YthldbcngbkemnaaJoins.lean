/- The walk of WordJoins. -/
import Derived.Test.YthldbcngbkemnaaAdds
namespace Drawbar.Line
open Go
open Go.Proofs.Ythldbcngbkemnaa (eachR wordsR shiftR)

/-- A line behind more words. -/
def Ln.pre (l : List ByteArray) (x : Ln) : Ln := { x with words := l ++ x.words }
theorem pre_add (l : List ByteArray) (x : Ln) (r : Nat) : (x.pre l).add r = ((x.add r).1, (x.add r).2.pre l) := by
  unfold Ln.add Ln.pre
  dsimp only
  split <;> rfl
theorem pre_part (l : List ByteArray) (x : Ln) : (x.pre l).part = x.part.pre l := by
  unfold Ln.part Ln.pre
  dsimp only
  split
  · rfl
  · simp
theorem pre_take (l : List ByteArray) (x : Ln) (r : Nat) : (x.pre l).take r = ((x.take r).1, (x.take r).2.pre l) := by
  have ha : ∀ k, ({ x.pre l with at' := k } : Ln).add r = ((({ x with at' := k } : Ln).add r).1, (({ x with at' := k } : Ln).add r).2.pre l) := fun k => pre_add l { x with at' := k } r
  have ha10 : ∀ k, ({ x.pre l with at' := k } : Ln).add 10 = ((({ x with at' := k } : Ln).add 10).1, (({ x with at' := k } : Ln).add 10).2.pre l) := fun k => pre_add l { x with at' := k } 10
  have ha9 : ∀ k, ({ x.pre l with at' := k } : Ln).add 9 = ((({ x with at' := k } : Ln).add 9).1, (({ x with at' := k } : Ln).add 9).2.pre l) := fun k => pre_add l { x with at' := k } 9
  have e : (x.pre l).at' = x.at' := rfl
  unfold Ln.take Ln.takeQuoted Ln.takeSlashed Ln.takeBare
  rw [e, pre_part, pre_add]
  simp only [ha, ha10, ha9]
  repeat' split
  all_goals rfl
theorem pre_end (l : List ByteArray) (x : Ln) : (x.pre l).end' = (x.end'.1, x.end'.2.pre l) := by
  unfold Ln.end'
  rw [pre_part]
  have e : (x.pre l).at' = x.at' := rfl
  rw [e]
  split <;> rfl
theorem pre_each (l : List ByteArray) (s : ByteArray) : ∀ (f p : Nat) (x : Ln), eachR Ln.take s f p (x.pre l) = ((eachR Ln.take s f p x).1, (eachR Ln.take s f p x).2.pre l)
  | 0, _, _ => rfl
  | f + 1, p, x => by
    simp only [eachR]
    rw [pre_take]
    dsimp only
    rw [pre_each l s f]
    repeat' split
    all_goals rfl

/-- What Words answers, from what each tells. -/
def fin (R : (Nat × Nat) × Ln) : List ByteArray × Nat × Nat :=
  if R.1.2 ≠ 0 then ([], R.1.1, R.1.2) else if R.2.end'.1 ≠ 0 then ([], R.1.1, R.2.end'.1) else (R.2.end'.2.words, 0, 0)
theorem wordsR_fin (s : ByteArray) (h : s.size ≤ 400) : wordsR s = fin (eachR Ln.take s s.size 0 ⟨[], [], 0⟩) := by
  unfold wordsR
  rw [if_neg (by omega)]
  rfl

theorem end_ok (x : Ln) (h : x.end'.1 = 0) : ¬ (x.at' = 2 ∨ x.at' = 3) ∧ x.end'.2 = x.part := by
  unfold Ln.end' at h ⊢
  split at h
  · cases h
  · rename_i c
    rw [if_neg c]
    exact ⟨c, rfl⟩
theorem take_blank (x : Ln) (h : ¬ (x.at' = 2 ∨ x.at' = 3)) : x.take 32 = (0, x.part) := by
  unfold Ln.take Ln.takeBare
  rw [if_neg (fun e => h (.inl e)), if_neg (fun e => h (.inr e))]
  rfl

/-- Two lines, with a blank between: the first one is right. -/
theorem words_join (a b : ByteArray) (h : a.size + b.size ≤ 399) (ha : (wordsR a).2.2 = 0) :
    wordsR (a ++ ⟨#[32]⟩ ++ b) = if (wordsR b).2.2 ≠ 0 then ([], a.size + 1 + (wordsR b).2.1, (wordsR b).2.2) else ((wordsR a).1 ++ (wordsR b).1, 0, 0) := by
  have hsp : ({ data := #[32] } : ByteArray).size = 1 := rfl
  have hs : (a ++ ⟨#[32]⟩ ++ b).size = a.size + 1 + b.size := by rw [Drawbar.Sign.size_app, Drawbar.Sign.size_app, hsp]
  rw [wordsR_fin _ (by omega), wordsR_fin a (by omega), wordsR_fin b (by omega)]
  rw [wordsR_fin a (by omega)] at ha
  have hokA : (eachR Ln.take a a.size 0 ⟨[], [], 0⟩).1.2 = 0 := by
    unfold fin at ha
    split at ha
    · rename_i c; exact absurd ha c
    · rename_i c; simpa using c
  have hb0 : ∀ st : Ln, ¬ (st.at' = 2 ∨ st.at' = 3) → eachR Ln.take ⟨#[32]⟩ 1 0 st = ((1, 0), st.part) := by
    intro st hst
    have hsg : Drawbar.Sign.sgn ⟨#[32]⟩ 0 = (1, 32) := by decide +kernel
    simp only [eachR]
    rw [hsg, hsp, if_pos (by omega), if_neg (by simp)]
    dsimp only
    rw [take_blank st hst, if_pos rfl]
  have hall := Go.Proofs.Ythldbcngbkemnaa.eachR_append Ln.take a ⟨#[32]⟩ ⟨[], [], 0⟩ hokA
  have hfa : fin (eachR Ln.take a a.size 0 ⟨[], [], 0⟩) = ((eachR Ln.take a a.size 0 ⟨[], [], 0⟩).2.part.words, 0, 0) ∧ ¬ ((eachR Ln.take a a.size 0 ⟨[], [], 0⟩).2.at' = 2 ∨ (eachR Ln.take a a.size 0 ⟨[], [], 0⟩).2.at' = 3) := by
    unfold fin at ha ⊢
    rw [if_neg (by simp [hokA])] at ha ⊢
    split at ha
    · rename_i c; exact absurd ha c
    · rename_i c
      rw [if_neg c]
      have := end_ok _ (by simpa using c)
      exact ⟨by rw [this.2], this.1⟩
  rw [hfa.1]
  rw [hsp, hb0 _ hfa.2] at hall
  have hall2 : (eachR Ln.take (a ++ ⟨#[32]⟩) (a ++ ⟨#[32]⟩).size 0 ⟨[], [], 0⟩).1.2 = 0 := by rw [hall]; rfl
  rw [Go.Proofs.Ythldbcngbkemnaa.eachR_append Ln.take _ b _ hall2, hall, Drawbar.Sign.size_app, hsp]
  have hp : (shiftR a.size ((1, 0), (eachR Ln.take a a.size 0 ⟨[], [], 0⟩).2.part)).2 = (⟨[], [], 0⟩ : Ln).pre (eachR Ln.take a a.size 0 ⟨[], [], 0⟩).2.part.words := by
    unfold Ln.pre
    simp [shiftR, Ln.part]
  rw [hp, pre_each]
  generalize eachR Ln.take b b.size 0 ⟨[], [], 0⟩ = R
  generalize (eachR Ln.take a a.size 0 ⟨[], [], 0⟩).2.part.words = l
  unfold fin shiftR
  dsimp only
  rw [pre_end]
  by_cases h1 : R.1.2 ≠ 0
  · rw [if_pos h1, if_pos h1, if_pos h1]
  · rw [if_neg h1, if_neg h1]
    dsimp only
    by_cases h2 : R.2.end'.1 ≠ 0
    · rw [if_pos h2, if_pos h2, if_pos h2]
    · rw [if_neg h2, if_neg h2]
      rfl
end Drawbar.Line
