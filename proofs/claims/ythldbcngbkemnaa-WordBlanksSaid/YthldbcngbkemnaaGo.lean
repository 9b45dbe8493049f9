/- The machine of a line on a text, from a place on. -/
import Derived.Test.YthldbcngbkemnaaSigns
namespace Go.Proofs.Ythldbcngbkemnaa
open Go.RowKit
open Drawbar Drawbar.Line Drawbar.Sign

theorem extract_str (s : ByteArray) (p : Nat) (l : List Nat) (h : p + l.length ≤ s.size) (hb : ∀ i, i < l.length → bt s (p + i) = l.getD i 0) : s.extract p (p + l.length) = strOf l := by
  apply str_ext
  rw [ByteArray.data_extract]
  show _ = ((l.map UInt8.ofNat).toArray).toList
  have hsz : s.data.size = s.size := rfl
  refine List.ext_getElem (by simp [hsz]; omega) fun i h1 h2 => ?_
  have hi : i < l.length := by simpa using h2
  have hx := hb i hi
  rw [← bt_at s (p + i) (by omega)] at hx
  rw [List.getD_eq_getElem?_getD, List.getElem?_eq_getElem hi] at hx
  simp only [Option.getD_some] at hx
  have hl : l[i] < 256 := by
    have := (s[p + i]'(by omega)).toNat_lt
    omega
  simp only [Array.getElem_toList, Array.getElem_extract, List.getElem_map]
  apply UInt8.toNat_inj.1
  rw [UInt8.toNat_ofNat', Nat.mod_eq_of_lt hl]
  exact hx

theorem all1 {f : Nat → Nat} {a : Nat} (h0 : f 0 = a) : ∀ i, i < [a].length → f i = [a].getD i 0
  | 0, _ => h0
  | i + 1, h => absurd h (by simp)
theorem all2 {f : Nat → Nat} {a b : Nat} (h0 : f 0 = a) (h1 : f 1 = b) : ∀ i, i < [a, b].length → f i = [a, b].getD i 0
  | 0, _ => h0
  | 1, _ => h1
  | i + 2, h => absurd h (by simp)
theorem all3 {f : Nat → Nat} {a b c : Nat} (h0 : f 0 = a) (h1 : f 1 = b) (h2 : f 2 = c) : ∀ i, i < [a, b, c].length → f i = [a, b, c].getD i 0
  | 0, _ => h0
  | 1, _ => h1
  | 2, _ => h2
  | i + 3, h => absurd h (by simp)
theorem all4 {f : Nat → Nat} {a b c d : Nat} (h0 : f 0 = a) (h1 : f 1 = b) (h2 : f 2 = c) (h3 : f 3 = d) : ∀ i, i < [a, b, c, d].length → f i = [a, b, c, d].getD i 0
  | 0, _ => h0
  | 1, _ => h1
  | 2, _ => h2
  | 3, _ => h3
  | i + 4, h => absurd h (by simp)

theorem enc1 {r : Nat} (h : r < 128) : enc r = [r] ∧ rlen r = 1 := by unfold enc rlen; rw [if_pos h, if_pos h]; exact ⟨rfl, rfl⟩
theorem enc2 {r : Nat} (h : 128 ≤ r) (h2 : r < 2048) : enc r = [192 + r / 64, 128 + r % 64] ∧ rlen r = 2 := by
  unfold enc rlen; rw [if_neg (by omega), if_pos h2, if_neg (by omega), if_pos h2]; exact ⟨rfl, rfl⟩
theorem enc3 {r : Nat} (h : 2048 ≤ r) (h2 : r < 65536) : enc r = [224 + r / 4096, 128 + r / 64 % 64, 128 + r % 64] ∧ rlen r = 3 := by
  unfold enc rlen; rw [if_neg (by omega), if_neg (by omega), if_pos h2, if_neg (by omega), if_neg (by omega), if_pos h2]; exact ⟨rfl, rfl⟩
theorem enc4 {r : Nat} (h : 65536 ≤ r) : enc r = [240 + r / 262144, 128 + r / 4096 % 64, 128 + r / 64 % 64, 128 + r % 64] ∧ rlen r = 4 := by
  unfold enc rlen; rw [if_neg (by omega), if_neg (by omega), if_neg (by omega), if_neg (by omega), if_neg (by omega), if_neg (by omega)]; exact ⟨rfl, rfl⟩

theorem sgn_rlen (s : ByteArray) (p : Nat) (h : (sgn s p).1 ≠ 0) : (sgn s p).1 = rlen (sgn s p).2 ∧ ∀ i, i < (enc (sgn s p).2).length → bt s (p + i) = (enc (sgn s p).2).getD i 0 := by
  have b0 := bt_lt s p
  have e0 : bt s (p + 0) = bt s p := rfl
  rw [sgn_eq] at h ⊢
  by_cases c1 : bt s p < 128
  · rw [if_pos c1] at h ⊢
    dsimp only
    rw [(enc1 c1).1, (enc1 c1).2]
    exact ⟨rfl, all1 (f := fun i => bt s (p + i)) e0⟩
  rw [if_neg c1] at h ⊢
  by_cases c2 : 192 ≤ bt s p ∧ bt s p < 224
  · rw [if_pos c2] at h ⊢
    split at h
    · rename_i c
      rw [if_pos c]
      have g1 := c.1.2
      have hv : (bt s p - 192) * 64 + bt s (p + 1) - 128 < 2048 := by omega
      have e := enc2 c.2 hv
      dsimp only
      rw [e.1, e.2]
      refine ⟨rfl, all2 (f := fun i => bt s (p + i)) ?_ ?_⟩
      · show bt s p = _; omega
      · show bt s (p + 1) = _; omega
    · exact absurd rfl h
  rw [if_neg c2] at h ⊢
  by_cases c3 : 224 ≤ bt s p ∧ bt s p < 240
  · rw [if_pos c3] at h ⊢
    split at h
    · rename_i c
      rw [if_pos c]
      have g1 := c.1.2
      have g2 := c.2.1.2
      have hv : ((bt s p - 224) * 64 + bt s (p + 1) - 128) * 64 + bt s (p + 2) - 128 < 65536 := by omega
      have e := enc3 c.2.2.1 hv
      dsimp only
      rw [e.1, e.2]
      clear e h c
      refine ⟨rfl, all3 (f := fun i => bt s (p + i)) ?_ ?_ ?_⟩
      · show bt s p = _; omega
      · show bt s (p + 1) = _; omega
      · show bt s (p + 2) = _; omega
    · exact absurd rfl h
  rw [if_neg c3] at h ⊢
  by_cases c4 : 240 ≤ bt s p ∧ bt s p < 248
  · rw [if_pos c4] at h ⊢
    split at h
    · rename_i c
      rw [if_pos c]
      have g1 := c.1.2
      have g2 := c.2.1.2
      have g3 := c.2.2.1.2
      have e := enc4 c.2.2.2.1
      dsimp only
      rw [e.1, e.2]
      clear e h c
      refine ⟨rfl, all4 (f := fun i => bt s (p + i)) ?_ ?_ ?_ ?_⟩
      · show bt s p = _; omega
      · show bt s (p + 1) = _; omega
      · show bt s (p + 2) = _; omega
      · show bt s (p + 3) = _; omega
    · exact absurd rfl h
  · rw [if_neg c4] at h
    exact absurd rfl h

/-- The bytes of a sign that is whole. -/
theorem sgn_extract (s : ByteArray) (p : Nat) (hp : p < s.size) (h : (sgn s p).1 ≠ 0) : s.extract p (p + (sgn s p).1) = strOf (enc (sgn s p).2) := by
  obtain ⟨h1, h2⟩ := sgn_rlen s p h
  have h3 := (sgn_le s p hp).1
  rw [h1, ← enc_length] at h3 ⊢
  exact extract_str s p _ h3 h2

/-- What is told of a line, from a place on. -/
def goR (s : ByteArray) (p : Nat) (l : Ln) : List ByteArray × Nat × Nat := fin (eachR Ln.take s s.size p l)
theorem goR_end (s : ByteArray) (p : Nat) (l : Ln) (h : ¬ p < s.size) : goR s p l = if l.at' = 2 ∨ l.at' = 3 then ([], s.size, 14) else (l.part.words, 0, 0) := by
  unfold goR
  rw [eachR_end Ln.take s _ p l h]
  unfold fin Ln.end'
  by_cases c : l.at' = 2 ∨ l.at' = 3
  · simp [c]
  · simp [c]
theorem eachR_succ {σ : Type} (step : σ → Nat → Nat × σ) (s : ByteArray) (f p : Nat) (st : σ) (h : p < s.size) : eachR step s (f + 1) p st =
    if (sgn s p).1 = 0 then ((p, 14), st) else if (step st (sgn s p).2).1 = 0 then eachR step s f (p + (sgn s p).1) (step st (sgn s p).2).2 else ((p, (step st (sgn s p).2).1), (step st (sgn s p).2).2) := by
  simp only [eachR, if_pos h]
theorem goR_step (s : ByteArray) (p : Nat) (l : Ln) (h : p < s.size) : goR s p l = if (sgn s p).1 = 0 then ([], p, 14) else if (l.take (sgn s p).2).1 = 0 then goR s (p + (sgn s p).1) (l.take (sgn s p).2).2 else ([], p, (l.take (sgn s p).2).1) := by
  obtain ⟨n, hn⟩ : ∃ n, s.size = n + 1 := ⟨s.size - 1, by omega⟩
  have h1 : goR s p l = fin (eachR Ln.take s (n + 1) p l) := by unfold goR; rw [hn]
  rw [h1, eachR_succ Ln.take s n p l h]
  by_cases hz : (sgn s p).1 = 0
  · rw [if_pos hz, if_pos hz]; rfl
  · rw [if_neg hz, if_neg hz]
    split
    · rw [eachR_fuel Ln.take s n s.size (p + (sgn s p).1) _ (by omega) (by omega)]
      rfl
    · rename_i c
      unfold fin
      rw [if_pos c]

/-- A sign in a word without quotes. -/
theorem take_bare (out : List ByteArray) (wd : List Nat) (r : Nat) : (⟨out, wd, 1⟩ : Ln).take r =
    if isPart r = true then (0, ⟨out ++ [strOf wd], [], 0⟩) else if r < 32 ∨ r = 34 ∨ r = 127 then (14, ⟨out, wd, 1⟩) else if 200 < wd.length + rlen r then (2, ⟨out, wd, 1⟩) else (0, ⟨out, wd ++ enc r, 1⟩) := by
  unfold Ln.take Ln.takeBare
  rw [if_neg (by simp), if_neg (by simp)]
  by_cases h1 : isPart r = true
  · rw [if_pos h1, if_pos h1]; rfl
  · rw [if_neg h1, if_neg h1, if_neg (by simp)]
    have hq : (1 = 4 ∨ isPlain r = false) ↔ (r < 32 ∨ r = 34 ∨ r = 127) := by
      unfold isPart at h1
      unfold isPlain
      simp at h1 ⊢
      omega
    by_cases h2 : r < 32 ∨ r = 34 ∨ r = 127
    · rw [if_pos (hq.2 h2), if_pos h2]
    · rw [if_neg (fun c => h2 (hq.1 c)), if_neg h2]
      unfold Ln.add
      rfl
/-- The first sign of one: neither a blank nor a quote. -/
theorem take_open (out : List ByteArray) (r : Nat) (h1 : ¬ isPart r = true) (h2 : r ≠ 34) (t : Nat) (ht : t < 2) : (⟨out, [], t⟩ : Ln).take r = if isPlain r = false then (14, ⟨out, [], t⟩) else (⟨out, [], 1⟩ : Ln).add r := by
  unfold Ln.take Ln.takeBare
  rw [if_neg (by simp; omega), if_neg (by simp; omega), if_neg h1, if_neg (by simp [h2])]
  by_cases h3 : isPlain r = false
  · rw [if_pos (.inr h3), if_pos h3]
  · rw [if_neg (by simp [h3]; omega), if_neg h3]
theorem take_first (out : List ByteArray) (r : Nat) (h1 : ¬ isPart r = true) (h2 : r ≠ 34) : ((⟨out, [], 0⟩ : Ln).take r).1 = ((⟨out, [], 1⟩ : Ln).take r).1 ∧ (((⟨out, [], 0⟩ : Ln).take r).1 = 0 → (⟨out, [], 0⟩ : Ln).take r = (⟨out, [], 1⟩ : Ln).take r) := by
  rw [take_open out r h1 h2 0 (by omega), take_open out r h1 h2 1 (by omega)]
  by_cases h3 : isPlain r = false
  · rw [if_pos h3, if_pos h3]
    exact ⟨rfl, fun h => absurd h (by simp)⟩
  · rw [if_neg h3, if_neg h3]
    exact ⟨rfl, fun _ => rfl⟩
theorem goR_first (s : ByteArray) (p : Nat) (hp : p < s.size) (hz : (sgn s p).1 ≠ 0) (h1 : ¬ isPart (sgn s p).2 = true) (h2 : (sgn s p).2 ≠ 34) (out : List ByteArray) : goR s p ⟨out, [], 0⟩ = goR s p ⟨out, [], 1⟩ := by
  have h := take_first out (sgn s p).2 h1 h2
  rw [goR_step s p _ hp, goR_step s p _ hp, if_neg hz, if_neg hz]
  by_cases c : ((⟨out, [], 0⟩ : Ln).take (sgn s p).2).1 = 0
  · rw [if_pos c, h.2 c]
    rw [h.1] at c
    rw [if_pos c]
  · rw [if_neg c, if_neg (by rw [← h.1]; exact c), h.1]
/-- A blank between words. -/
theorem take_between (out : List ByteArray) (r : Nat) (h : isPart r = true) : (⟨out, [], 0⟩ : Ln).take r = (0, ⟨out, [], 0⟩) := by
  unfold Ln.take Ln.takeBare
  rw [if_neg (by simp), if_neg (by simp), if_pos h]
  rfl
theorem take_quote (out : List ByteArray) : (⟨out, [], 0⟩ : Ln).take 34 = (0, ⟨out, [], 2⟩) := rfl
theorem take_quoted (out : List ByteArray) (wd : List Nat) (r : Nat) : (⟨out, wd, 2⟩ : Ln).take r =
    if r < 32 then (14, ⟨out, wd, 2⟩) else if r = 34 then (0, ⟨out, wd, 4⟩) else if r = 92 then (0, ⟨out, wd, 3⟩) else if 200 < wd.length + rlen r then (2, ⟨out, wd, 2⟩) else (0, ⟨out, wd ++ enc r, 2⟩) := by
  unfold Ln.take Ln.takeQuoted
  rw [if_pos rfl]
  by_cases h0 : r < 32
  · rw [if_neg (by omega), if_neg (by omega), if_pos h0, if_pos h0]
  · rw [if_neg h0, if_neg h0]
    rfl
theorem take_slashed (out : List ByteArray) (wd : List Nat) (r : Nat) : (⟨out, wd, 3⟩ : Ln).take r =
    if r = 34 ∨ r = 92 then (⟨out, wd, 2⟩ : Ln).add r else if r = 110 then (⟨out, wd, 2⟩ : Ln).add 10 else if r = 116 then (⟨out, wd, 2⟩ : Ln).add 9 else (14, ⟨out, wd, 2⟩) := rfl
theorem take_closed (out : List ByteArray) (wd : List Nat) (r : Nat) : (⟨out, wd, 4⟩ : Ln).take r = if isPart r = true then (0, ⟨out ++ [strOf wd], [], 0⟩) else (14, ⟨out, wd, 4⟩) := by
  unfold Ln.take Ln.takeBare
  rw [if_neg (by simp), if_neg (by simp)]
  by_cases h1 : isPart r = true
  · rw [if_pos h1, if_pos h1]; rfl
  · rw [if_neg h1, if_neg h1, if_neg (by simp), if_pos (.inl rfl)]

/-- What a reading of one word says of the line. -/
def Says (s : ByteArray) (i0 t : Nat) (x : ByteArray) (j er : Nat) : Prop :=
  j ≤ s.size ∧ er < 1000 ∧ (er = 0 → i0 < j) ∧ ∀ out, goR s i0 ⟨out, [], t⟩ = if er = 0 then goR s j ⟨out ++ [x], [], 0⟩ else ([], j, er)

/-- A word without quotes ends: at a blank, or with the text. -/
theorem bare_ends (s : ByteArray) (p : Nat) (wd : List Nat) (out : List ByteArray) (h : p < s.size → (sgn s p).1 ≠ 0 ∧ isPart (sgn s p).2 = true) : goR s p ⟨out, wd, 1⟩ = goR s p ⟨out ++ [strOf wd], [], 0⟩ := by
  by_cases hp : p < s.size
  · obtain ⟨h1, h2⟩ := h hp
    rw [goR_step s p _ hp, goR_step s p _ hp, if_neg h1, if_neg h1, take_bare, if_pos h2, take_between _ _ h2]
  · rw [goR_end s p _ hp, goR_end s p _ hp]
    simp [Ln.part]
theorem closed_ends (s : ByteArray) (p : Nat) (wd : List Nat) (out : List ByteArray) (h : p < s.size → (sgn s p).1 ≠ 0 ∧ isPart (sgn s p).2 = true) : goR s p ⟨out, wd, 4⟩ = goR s p ⟨out ++ [strOf wd], [], 0⟩ := by
  by_cases hp : p < s.size
  · obtain ⟨h1, h2⟩ := h hp
    rw [goR_step s p _ hp, goR_step s p _ hp, if_neg h1, if_neg h1, take_closed, if_pos h2, take_between _ _ h2]
  · rw [goR_end s p _ hp, goR_end s p _ hp]
    simp [Ln.part]
end Go.Proofs.Ythldbcngbkemnaa
