/- One sign of any number, between two others. -/
import Derived.Test.YthldbcngbkemnaaJoinsW
namespace Go.Proofs.Ythldbcngbkemnaa
open Go.RowKit
open Drawbar Drawbar.Line Drawbar.Sign

theorem bt_str (l : List Nat) (p : Nat) : bt (strOf l) p = l.getD p 0 % 256 := by
  rw [bt_data]
  show ((l.map UInt8.ofNat).toArray[p]?.getD 0).toNat = _
  rw [List.getElem?_toArray, List.getElem?_map, List.getD_eq_getElem?_getD]
  cases l[p]? with
  | none => rfl
  | some x => simp
theorem size_str (l : List Nat) : (strOf l).size = l.length := by
  show (l.map UInt8.ofNat).toArray.size = _
  simp
theorem goes_str (l : List Nat) (p : Nat) (h1 : p < l.length) (h2 : 128 ≤ l.getD p 0) (h3 : l.getD p 0 ≤ 191) : goes (strOf l) p := by
  refine ⟨by rw [size_str]; exact h1, ?_, ?_⟩
  · rw [bt_str]; omega
  · rw [bt_str]; omega
theorem str_app (l m : List Nat) : strOf (l ++ m) = strOf l ++ strOf m := by
  apply str_ext
  rw [ByteArray.data_append]
  simp [strOf]

theorem encode_str (r : Nat) (hv : Utf8.valid (r : Int) = true) : Utf8.encode (r : Int) = strOf (enc r) := by
  have e : ((r : Int).toNat) = r := by omega
  unfold Utf8.encode enc
  simp only [hv, if_true, e]
  by_cases h1 : r < 128
  · rw [if_pos h1, if_pos h1]; rfl
  · rw [if_neg h1, if_neg h1]
    by_cases h2 : r < 2048
    · rw [if_pos h2, if_pos h2]; rfl
    · rw [if_neg h2, if_neg h2]
      by_cases h3 : r < 65536
      · rw [if_pos h3, if_pos h3]; rfl
      · rw [if_neg h3, if_neg h3]; rfl

theorem sgn_str (r : Nat) (hv : Utf8.valid (r : Int) = true) : sgn (strOf (enc r)) 0 = ((strOf (enc r)).size, r) := by
  have hv2 : r < 55296 ∨ (57344 ≤ r ∧ r ≤ 1114111) := by simp [Utf8.valid] at hv; omega
  rw [size_str, sgn_eq]
  unfold enc
  by_cases h1 : r < 128
  · rw [if_pos h1]
    have b0 : bt (strOf [r]) 0 = r := by rw [bt_str]; simp; omega
    rw [b0, if_pos h1]
    rfl
  rw [if_neg h1]
  by_cases h2 : r < 2048
  · rw [if_pos h2]
    have b0 : bt (strOf [192 + r / 64, 128 + r % 64]) 0 = 192 + r / 64 := by rw [bt_str]; simp; omega
    have b1 : bt (strOf [192 + r / 64, 128 + r % 64]) (0 + 1) = 128 + r % 64 := by rw [bt_str]; simp; omega
    have g1 : goes (strOf [192 + r / 64, 128 + r % 64]) (0 + 1) := goes_str _ _ (by simp) (by simp) (by simp; omega)
    rw [b0, b1, if_neg (by omega), if_pos (by omega), if_pos ⟨g1, by omega⟩]
    simp only [List.length_cons, List.length_nil, Prod.mk.injEq, true_and]
    omega
  rw [if_neg h2]
  by_cases h3 : r < 65536
  · rw [if_pos h3]
    have b0 : bt (strOf [224 + r / 4096, 128 + r / 64 % 64, 128 + r % 64]) 0 = 224 + r / 4096 := by rw [bt_str]; simp; omega
    have b1 : bt (strOf [224 + r / 4096, 128 + r / 64 % 64, 128 + r % 64]) (0 + 1) = 128 + r / 64 % 64 := by rw [bt_str]; simp; omega
    have b2 : bt (strOf [224 + r / 4096, 128 + r / 64 % 64, 128 + r % 64]) (0 + 2) = 128 + r % 64 := by rw [bt_str]; simp; omega
    have g1 : goes (strOf [224 + r / 4096, 128 + r / 64 % 64, 128 + r % 64]) (0 + 1) := goes_str _ _ (by simp) (by simp) (by simp; omega)
    have g2 : goes (strOf [224 + r / 4096, 128 + r / 64 % 64, 128 + r % 64]) (0 + 2) := goes_str _ _ (by simp) (by simp) (by simp; omega)
    rw [b0, b1, b2, if_neg (by omega), if_neg (by omega), if_pos (by omega), if_pos ⟨g1, g2, by omega, by omega⟩]
    simp only [List.length_cons, List.length_nil, Prod.mk.injEq, true_and]
    omega
  · rw [if_neg h3]
    have b0 : bt (strOf [240 + r / 262144, 128 + r / 4096 % 64, 128 + r / 64 % 64, 128 + r % 64]) 0 = 240 + r / 262144 := by rw [bt_str]; simp; omega
    have b1 : bt (strOf [240 + r / 262144, 128 + r / 4096 % 64, 128 + r / 64 % 64, 128 + r % 64]) (0 + 1) = 128 + r / 4096 % 64 := by rw [bt_str]; simp; omega
    have b2 : bt (strOf [240 + r / 262144, 128 + r / 4096 % 64, 128 + r / 64 % 64, 128 + r % 64]) (0 + 2) = 128 + r / 64 % 64 := by rw [bt_str]; simp; omega
    have b3 : bt (strOf [240 + r / 262144, 128 + r / 4096 % 64, 128 + r / 64 % 64, 128 + r % 64]) (0 + 3) = 128 + r % 64 := by rw [bt_str]; simp; omega
    have g1 : goes (strOf [240 + r / 262144, 128 + r / 4096 % 64, 128 + r / 64 % 64, 128 + r % 64]) (0 + 1) := goes_str _ _ (by simp) (by simp) (by simp; omega)
    have g2 : goes (strOf [240 + r / 262144, 128 + r / 4096 % 64, 128 + r / 64 % 64, 128 + r % 64]) (0 + 2) := goes_str _ _ (by simp) (by simp) (by simp; omega)
    have g3 : goes (strOf [240 + r / 262144, 128 + r / 4096 % 64, 128 + r / 64 % 64, 128 + r % 64]) (0 + 3) := goes_str _ _ (by simp) (by simp) (by simp; omega)
    rw [b0, b1, b2, b3, if_neg (by omega), if_neg (by omega), if_neg (by omega), if_pos (by omega), if_pos ⟨g1, g2, g3, by omega, by omega⟩]
    simp only [List.length_cons, List.length_nil, Prod.mk.injEq, true_and]
    omega

theorem enc_pos (r : Nat) : 0 < (strOf (enc r)).size := by rw [size_str, enc_length]; exact (rlen_le r).1

/-- One sign is one. -/
theorem cntR_one (r : Nat) (hv : Utf8.valid (r : Int) = true) : cntR (strOf (enc r)) = (1, true) := by
  have h := eachR_one cstep (strOf (enc r)) ⟨#[]⟩ r 0 (enc_pos r) (sgn_str r hv)
  have he : strOf (enc r) ++ ⟨#[]⟩ = strOf (enc r) := by apply str_ext; rw [ByteArray.data_append]; simp
  rw [he] at h
  unfold cntR
  rw [h]
  rfl

theorem sgn_small (x : Nat) (h : x < 128) (h0 : 0 < x) : Drawbar.Sign.sgn ⟨#[UInt8.ofNat x]⟩ 0 = (1, x) := by
  have hv : Utf8.valid (x : Int) = true := by simp [Utf8.valid]; omega
  have := sgn_str x hv
  unfold enc at this
  rw [if_pos h] at this
  exact this

/-- A sign between two others. -/
theorem words_sign (r : Nat) (hv : Utf8.valid (r : Int) = true) :
    wordsR (⟨#[97]⟩ ++ strOf (enc r) ++ ⟨#[98]⟩) = if isPart r = true then ([⟨#[97]⟩, ⟨#[98]⟩], 0, 0) else if isPlain r = false then ([], 1, 14) else ([⟨#[97]⟩ ++ strOf (enc r) ++ ⟨#[98]⟩], 0, 0) := by
  have hs : (⟨#[97]⟩ ++ strOf (enc r) ++ ⟨#[98]⟩ : ByteArray).size ≤ 400 := by
    have := (rlen_le r).2
    have e1 : ({ data := #[97] } : ByteArray).size = 1 := rfl
    have e2 : ({ data := #[98] } : ByteArray).size = 1 := rfl
    rw [size_app, size_app, size_str, enc_length, e1, e2]
    omega
  rw [wordsR_fin _ hs]
  have h97 : eachR Ln.take ⟨#[97]⟩ (ByteArray.size ⟨#[97]⟩) 0 ⟨[], [], 0⟩ = ((1, 0), ⟨[], [97], 1⟩) := by kernel_rfl
  have hb1 : ∀ st : Ln, st.at' = 0 → st.word = [] → eachR Ln.take ⟨#[98]⟩ (ByteArray.size ⟨#[98]⟩) 0 st = ((1, 0), ⟨st.words, [98], 1⟩) := by
    rintro ⟨ws, wd, t⟩ rfl rfl
    have hsg : sgn ⟨#[98]⟩ 0 = (1, 98) := by decide +kernel
    have hsz : (ByteArray.size ⟨#[98]⟩) = 1 := rfl
    rw [hsz]
    simp only [eachR]
    rw [hsg, hsz]
    rfl
  have hb2 : ∀ st : Ln, st.at' = 1 → st.word.length ≤ 100 → eachR Ln.take ⟨#[98]⟩ (ByteArray.size ⟨#[98]⟩) 0 st = ((1, 0), ⟨st.words, st.word ++ [98], 1⟩) := by
    rintro ⟨ws, wd, t⟩ rfl hl
    have hsg : sgn ⟨#[98]⟩ 0 = (1, 98) := by decide +kernel
    have hsz : (ByteArray.size ⟨#[98]⟩) = 1 := rfl
    have ht : (⟨ws, wd, 1⟩ : Ln).take 98 = (0, ⟨ws, wd ++ [98], 1⟩) := by
      unfold Ln.take Ln.takeBare
      rw [if_neg (by simp), if_neg (by simp), if_neg (by decide), if_neg (by simp), if_neg (by simp [isPlain])]
      unfold Ln.add
      have : rlen 98 = 1 := rfl
      rw [this, if_neg (by dsimp only at hl ⊢; omega)]
      rfl
    rw [hsz]
    simp only [eachR]
    rw [hsg, hsz, ht]
    rfl
  rw [ByteArray.append_assoc, eachR_append Ln.take ⟨#[97]⟩ _ ⟨[], [], 0⟩ (by rw [h97]), h97, eachR_one Ln.take (strOf (enc r)) ⟨#[98]⟩ r _ (enc_pos r) (sgn_str r hv)]
  have htk : (⟨[], [97], 1⟩ : Ln).take r = if isPart r = true then (0, ⟨[⟨#[97]⟩], [], 0⟩) else if isPlain r = false then (14, ⟨[], [97], 1⟩) else (0, ⟨[], [97] ++ enc r, 1⟩) := by
    unfold Ln.take Ln.takeBare
    rw [if_neg (by simp), if_neg (by simp)]
    by_cases h1 : isPart r = true
    · rw [if_pos h1, if_pos h1]; rfl
    · rw [if_neg h1, if_neg h1, if_neg (by simp)]
      by_cases h2 : isPlain r = false
      · rw [if_pos (.inr h2), if_pos h2]
      · rw [if_neg (by simp [h2]), if_neg h2]
        unfold Ln.add
        have := (rlen_le r).2
        rw [if_neg (by simp; omega)]
  rw [htk]
  by_cases h1 : isPart r = true
  · rw [if_pos h1, if_pos h1]
    dsimp only
    rw [if_pos rfl, hb1 _ rfl rfl]
    rfl
  · rw [if_neg h1, if_neg h1]
    by_cases h2 : isPlain r = false
    · rw [if_pos h2, if_pos h2]
      rfl
    · rw [if_neg h2, if_neg h2]
      dsimp only
      have := (rlen_le r).2
      rw [if_pos rfl, hb2 _ rfl (by simp [enc_length]; omega)]
      have e : strOf (97 :: (enc r ++ [98])) = ⟨#[97]⟩ ++ (strOf (enc r) ++ ⟨#[98]⟩) := by
        rw [show 97 :: (enc r ++ [98]) = [97] ++ (enc r ++ [98]) from rfl, str_app, str_app]
        rfl
      unfold fin shiftR
      simp only [Ln.end', Ln.part]
      simp [e]
end Go.Proofs.Ythldbcngbkemnaa
